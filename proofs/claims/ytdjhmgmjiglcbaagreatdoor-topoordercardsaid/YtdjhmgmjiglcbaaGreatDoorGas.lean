/- Lemmas. -/
import Derived.Test.YtdjhmgmjiglcbaaGreatDoorGan
import Derived.Test.YtdjhmgmjiglcbaaGreatDoorGar
import Derived.Test.YtdjhmgmjiglcbaaGreatDoorGao
import Derived.Test.YtdjhmgmjiglcbaaGreatDoorGae
set_option maxHeartbeats 8000000
namespace Go.Proofs.YtdjhmgmjiglcbaaGreatDoor
open Go.RowKit
namespace F
def near (n:Int)(d:Nat):Int :=
 if isgn (Int.tmod n d).natAbs ((d:Int)-(Int.tmod n d).natAbs)=1∨(isgn (Int.tmod n d).natAbs ((d:Int)-(Int.tmod n d).natAbs)=0/\Int.tdiv n d%2≠0) then Int.tdiv n d+isgn (Int.tmod n d) 0 else Int.tdiv n d
def gridV (z:Int):Int:=if -1000000000000000000<=z/\z<=1000000000000000000 then z else 0
def gridE (z:Int):Int:=if -1000000000000000000<=z/\z<=1000000000000000000 then 0 else 4
def IRow (w:World)(p:Nat)(x0 x1:Value):Prop:=w.rowIs p 211 2 (fun i=>if i=0 then x0 else x1)
theorem IRow.alloc (w:World)(x0 x1:Value):IRow (w.alloc (.cells #[x0,x1] 211)) w.heap.size x0 x1 :=
 World.rowIs_alloc w #[x0,x1] 211 _ (fun i hi=>by
  match i,hi with
  |0,_=>rfl
  | 1,_=>rfl)
section
variable {w w':World} {p:Nat} {x0 x1:Value}
theorem IRow.lt (h:IRow w p x0 x1):p<w.heap.size:=World.rowIs.lt h
theorem IRow.c0 (h:IRow w p x0 x1):w.cell? ⟨p,0,none⟩=some x0:=World.rowIs.cell h (i:=0) (by omega)
theorem IRow.c1 (h:IRow w p x0 x1):w.cell? ⟨p,1,none⟩=some x1:=World.rowIs.cell h (i:=1) (by omega)
theorem IRow.kept (h:IRow w p x0 x1)(k:Kept w w'):IRow w' p x0 x1:=World.rowIs.of_block h (k.block p h.lt)
end
def RatN (B:Nat)(w:World)(v:Value)(X Y:Int):Prop :=
 ∃s ao k c l t ap k' c' l',v=.agg #[.bool s,.slice ao k c,.bool t,.slice ap k' c']/\New B w (.slice ao k c) l/\M.Right s l/\M.int s l=X/\New B w (.slice ap k' c') l'/\M.Right t l'/\M.int t l'=Y/\RatR s t l l'
theorem RatIs.right {B:Nat}{w:World}{v:Value}{X Y:Int}(h:RatIs B w v X Y)(h0:0<Y)(h1:Nat.gcd X.natAbs Y.natAbs=1):RatN B w v X Y:=by
 obtain⟨s,ao,k,c,l,t,ap,k',c',l',rfl,n1,r1,v1,n2,r2,v2⟩:=h
 refine⟨s,ao,k,c,l,t,ap,k',c',l',rfl,n1,r1,v1,n2,r2,v2,R.of_right r1,R.of_right r2,by rw[v2];exact h0,?_⟩
 rw[<-M.natAbs_int s l,<-M.natAbs_int t l',v1,v2];exact h1
def Ok (w V:World)(v:Value)(l:List Nat):Prop:=Sl w v l∨New w.heap.size V v l
section
variable {w V V':World} {v:Value} {l:List Nat}
theorem Ok.sl (h:Ok w V v l)(k:Kept w V):Sl V v l:=h.elim (fun h=>h.kept k) (fun h=>h.sl)
theorem Ok.kept (h:Ok w V v l)(k:Kept V V'):Ok w V' v l:=h.elim .inl (fun h=>.inr (h.kept k))
theorem Ok.row4 {p:Nat}{x0 x1 x2 x3:Value}(h:Ok w V v l)(hr:RRow V p x0 x1 x2 x3)(y0 y1 y2 y3:Value):Ok w ((((V.setCell ⟨p,0,none⟩ y0).setCell ⟨p,1,none⟩ y1).setCell ⟨p,2,none⟩ y2).setCell ⟨p,3,none⟩ y3) v l:=by
 rcases h with h|h
 ·exact .inl h
 ·refine .inr ?_
  obtain⟨hb,⟨rfl,rfl⟩|⟨b,N,f,rfl,hB,hN,hq,hf⟩⟩:=h
  ·exact⟨hb,.inl ⟨rfl,rfl⟩⟩
  ·have hne:b≠p:=by
    intro e
    subst e
    obtain⟨c,h1,_,_⟩:=hq
    obtain⟨c',h2,_,_⟩:=hr
    rw[h1]at h2
    simp at h2
   exact⟨hb,.inr ⟨b,N,f,rfl,hB,hN,World.rowIs.setOther (World.rowIs.setOther (World.rowIs.setOther (World.rowIs.setOther hq hne _) hne _) hne _) hne _,hf⟩⟩
end
theorem RRow.set {w:World}{p:Nat}{x0 x1 x2 x3:Value}(h:RRow w p x0 x1 x2 x3)(y0 y1 y2 y3:Value):RRow ((((w.setCell ⟨p,0,none⟩ y0).setCell ⟨p,1,none⟩ y1).setCell ⟨p,2,none⟩ y2).setCell ⟨p,3,none⟩ y3) p y0 y1 y2 y3 :=
 World.rowIs.congr (World.rowIs.set (World.rowIs.set (World.rowIs.set (World.rowIs.set h 0 y0) 1 y1) 2 y2) 3 y3) (fun i hi=>by
  match i,hi with
  |0,_=>simp
  |1,_=>simp
  |2,_=>simp
  | 3,_=>simp)
theorem RRow.far {w:World}{p q:Nat}{x0 x1 x2 x3:Value}(h:RRow w p x0 x1 x2 x3)(hne:p≠q)(y0 y1 y2 y3:Value):RRow ((((w.setCell ⟨q,0,none⟩ y0).setCell ⟨q,1,none⟩ y1).setCell ⟨q,2,none⟩ y2).setCell ⟨q,3,none⟩ y3) p x0 x1 x2 x3 :=
 World.rowIs.setOther (World.rowIs.setOther (World.rowIs.setOther (World.rowIs.setOther h hne _) hne _) hne _) hne _
def rdd (w:World)(p:Nat):Nat:=match w.cell? ⟨p,3,none⟩ with|some v=>rdv w v|none=>0
theorem rdd_of {w:World}{p:Nat}{v:Value}{l:List Nat}(h:w.cell? ⟨p,3,none⟩=some v)(hs:Sl w v l):rdd w p=M.val l:=by
 unfold rdd;rw[h];exact rdv_of hs
theorem isgn_eq {a b c d:Int}(h1:a<b↔c<d)(h2:a=b↔c=d):isgn a b=isgn c d:=by unfold isgn;simp only[h1,h2]
theorem whole_lt {x y u v q r q' r':Nat}(hx:x=q*y+r)(hu:u=q'*v+r')(hr:r<y)(hv:0<v)(hq:q<q'):x*v<u*y:=by
 have h1:x<(q+1)*y:=by rw[hx,Nat.add_mul];omega
 have h2:(q+1)*v<=u:=by rw[hu];exact Nat.le_trans (Nat.mul_le_mul_right _ hq) (Nat.le_add_right _ _)
 have h3:x*v<(q+1)*y*v:=Nat.mul_lt_mul_of_pos_right h1 hv
 have h4:(q+1)*v*y<=u*y:=Nat.mul_le_mul_right _ h2
 have h5:(q+1)*y*v=(q+1)*v*y:=by rw[Nat.mul_assoc,Nat.mul_assoc,Nat.mul_comm y v]
 omega
theorem told_whole {x y u v q r q' r':Nat}(hx:x=q*y+r)(hu:u=q'*v+r')(hr:r<y)(hr':r'<v)(hne:q≠q'):isgn ((x*v:Nat):Int) ((u*y:Nat):Int)=isgn (q:Int) (q':Int):=by
 rcases Nat.lt_or_gt_of_ne hne with h|h
 ·have:=whole_lt hx hu hr (by omega) h
  exact isgn_eq (by omega) (by omega)
 ·have:=whole_lt hu hx hr' (by omega) h
  exact isgn_eq (by omega) (by omega)
theorem told_rest {x y u v q r r':Nat}(hx:x=q*y+r)(hu:u=q*v+r'):isgn ((x*v:Nat):Int) ((u*y:Nat):Int)=isgn ((r*v:Nat):Int) ((r'*y:Nat):Int):=by
 have e1:x*v=q*y*v+r*v:=by rw[hx,Nat.add_mul]
 have e2:u*y=q*y*v+r'*y:=by rw[hu,Nat.add_mul,Nat.mul_assoc,Nat.mul_assoc,Nat.mul_comm v y]
 rw[e1,e2]
 generalize q*y*v=K
 generalize r*v=A
 generalize r'*y=B
 exact isgn_eq (by omega) (by omega)
theorem told_end {r v r' y:Nat}(hv:0<v)(hy:0<y)(h:r=0∨r'=0):isgn ((r*v:Nat):Int) ((r'*y:Nat):Int)=isgn (isgn (r:Int) 0) (isgn (r':Int) 0):=by
 have hs:∀n:Nat,isgn (n:Int) 0=if n=0 then 0 else 1:=fun n=>by unfold isgn;split <;> (try split) <;> (try split) <;> omega
 rw[hs,hs]
 rcases h with rfl|rfl
 ·by_cases h0:r'=0
  ·subst h0;simp[isgn]
  ·have:=Nat.mul_pos (Nat.pos_of_ne_zero h0) hy
   rw[if_pos rfl,if_neg h0]
   exact isgn_eq (by omega) (by omega)
 ·by_cases h0:r=0
  ·subst h0;simp[isgn]
  ·have:=Nat.mul_pos (Nat.pos_of_ne_zero h0) hv
   rw[if_pos rfl,if_neg h0]
   exact isgn_eq (by omega) (by omega)
theorem nat_int {l:List Nat}:M.int false l=(M.val l:Int):=by simp[M.int]
theorem quo_nat {s t:Bool}{q r x y:List Nat}(hq:M.Right s q)(hr:M.Right t r)(hy:0<M.val y)(e1:M.int s q=Int.tdiv (M.int false x) (M.int false y))(e2:M.int t r=Int.tmod (M.int false x) (M.int false y)) :
  s=false/\t=false/\M.val x=M.val q*M.val y+M.val r/\M.val r<M.val y:=by
 rw[nat_int,nat_int,<-Int.ofNat_tdiv]at e1
 rw[nat_int,nat_int,<-Int.ofNat_tmod]at e2
 have f:∀ {b:Bool} {l:List Nat} {n:Nat},M.Right b l->M.int b l=(n:Int)->b=false/\M.val l=n:=by
  intro b l n h e
  have hb:b=false:=by
   cases b
   ·rfl
   ·have:=int_neg_lt (R.of_right h);omega
  subst hb
  rw[nat_int]at e
  exact⟨rfl,by omega⟩
 obtain⟨rfl,h1⟩:=f hq e1
 obtain⟨rfl,h2⟩:=f hr e2
 refine⟨rfl,rfl,?_,?_⟩
 ·rw[h1,h2];have:=Nat.div_add_mod (M.val x) (M.val y);rw[Nat.mul_comm]at this;omega
 ·rw[h2];exact Nat.mod_lt _ hy
def AtHead (w wr:World)(T:Int)(ao1 ao2 ao3 ao4:Option Addr)(k1 c1 k2 c2 k3 c3 k4 c4:Nat)(x y u v:List Nat):Prop :=
 Kept w wr/\RRow wr w.heap.size (.bool false) (.slice ao1 k1 c1) (.bool false) (.slice ao2 k2 c2)/\RRow wr (w.heap.size+1) (.bool false) (.slice ao3 k3 c3) (.bool false) (.slice ao4 k4 c4) /\
 Ok w wr (.slice ao1 k1 c1) x/\Ok w wr (.slice ao2 k2 c2) y/\Ok w wr (.slice ao3 k3 c3) u/\Ok w wr (.slice ao4 k4 c4) v/\R false x/\R false y/\R false u/\R false v/\0<M.val y/\0<M.val v /\
 isgn ((M.val x*M.val v:Nat):Int) ((M.val u*M.val y:Nat):Int)=T
theorem val_len {l:List Nat}(h:0<M.val l):0<l.length:=by
 apply Classical.byContradiction
 intro h0
 have:l=[]:=List.length_eq_zero_iff.1 (by omega)
 subst this
 simp[M.val]at h
theorem sgn_nat (n:Nat):isgn (n:Int) 0=if n=0 then 0 else 1:=by unfold isgn;split <;> (try split) <;> (try split) <;> omega
def next8 (V:World)(p2 p3:Nat)(ao4 ar2 ao2 ar1:Option Addr)(k4 c4 kr2 cr2 k2 c2 kr1 cr1:Nat):World :=
 ((((((((V.setCell ⟨p2,0,none⟩ (.bool false)).setCell ⟨p2,1,none⟩ (.slice ao4 k4 c4)).setCell ⟨p2,2,none⟩ (.bool false)).setCell ⟨p2,3,none⟩ (.slice ar2 kr2 cr2)).setCell ⟨p3,0,none⟩ (.bool false)).setCell ⟨p3,1,none⟩ (.slice ao2 k2 c2)).setCell ⟨p3,2,none⟩ (.bool false)).setCell ⟨p3,3,none⟩ (.slice ar1 kr1 cr1)).drew
theorem Kept.set4 {a b:World}{p:Nat}(h:Kept a b)(hp:a.heap.size<=p)(x0 x1 x2 x3:Value):Kept a ((((b.setCell ⟨p,0,none⟩ x0).setCell ⟨p,1,none⟩ x1).setCell ⟨p,2,none⟩ x2).setCell ⟨p,3,none⟩ x3) :=
 (((h.setCell (p:=⟨p,0,none⟩) hp x0).setCell (p:=⟨p,1,none⟩) hp x1).setCell (p:=⟨p,2,none⟩) hp x2).setCell (p:=⟨p,3,none⟩) hp x3
theorem head_next {w V:World}{T:Int}{p2 p3:Nat}{ao1 ao2 ao3 ao4 ar1 ar2:Option Addr}{k1 c1 k2 c2 k3 c3 k4 c4 kr1 cr1 kr2 cr2:Nat}{y v r1 r2:List Nat}(b1:p3=w.heap.size+1)(b2:p2=w.heap.size)(kk:Kept w V)
  (h2:RRow V p2 (.bool false) (.slice ao1 k1 c1) (.bool false) (.slice ao2 k2 c2)) (h3:RRow V p3 (.bool false) (.slice ao3 k3 c3) (.bool false) (.slice ao4 k4 c4))
  (y1:Ok w V (.slice ao2 k2 c2) y) (y2:Ok w V (.slice ao4 k4 c4) v) (y3:Ok w V (.slice ar1 kr1 cr1) r1) (y4:Ok w V (.slice ar2 kr2 cr2) r2) (ry:R false y) (rv:R false v) (rr1:R false r1) (rr2:R false r2) (p1:M.val r1≠0) (p2':M.val r2≠0)
  (hT:isgn ((M.val r1*M.val v:Nat):Int) ((M.val r2*M.val y:Nat):Int)=T) :
  AtHead w (next8 V p2 p3 ao4 ar2 ao2 ar1 k4 c4 kr2 cr2 k2 c2 kr1 cr1) T ao4 ar2 ao2 ar1 k4 c4 kr2 cr2 k2 c2 kr1 cr1 v r2 y r1:=by
 have n23:p2≠p3:=by omega
 have n32:p3≠p2:=by omega
 have z2:=h2.set (.bool false) (.slice ao4 k4 c4) (.bool false) (.slice ar2 kr2 cr2)
 have z3:=h3.far (q:=p2) n32 (.bool false) (.slice ao4 k4 c4) (.bool false) (.slice ar2 kr2 cr2)
 have q1:=(y1.row4 h2 (.bool false) (.slice ao4 k4 c4) (.bool false) (.slice ar2 kr2 cr2)).row4 z3 (.bool false) (.slice ao2 k2 c2) (.bool false) (.slice ar1 kr1 cr1)
 have q2:=(y2.row4 h2 (.bool false) (.slice ao4 k4 c4) (.bool false) (.slice ar2 kr2 cr2)).row4 z3 (.bool false) (.slice ao2 k2 c2) (.bool false) (.slice ar1 kr1 cr1)
 have q3:=(y3.row4 h2 (.bool false) (.slice ao4 k4 c4) (.bool false) (.slice ar2 kr2 cr2)).row4 z3 (.bool false) (.slice ao2 k2 c2) (.bool false) (.slice ar1 kr1 cr1)
 have q4:=(y4.row4 h2 (.bool false) (.slice ao4 k4 c4) (.bool false) (.slice ar2 kr2 cr2)).row4 z3 (.bool false) (.slice ao2 k2 c2) (.bool false) (.slice ar1 kr1 cr1)
 have k8:=Kept.set4 (Kept.set4 kk (by omega:w.heap.size<=p2) (.bool false) (.slice ao4 k4 c4) (.bool false) (.slice ar2 kr2 cr2)) (by omega:w.heap.size<=p3) (.bool false) (.slice ao2 k2 c2) (.bool false) (.slice ar1 kr1 cr1)
 have z5:=z2.far n23 (.bool false) (.slice ao2 k2 c2) (.bool false) (.slice ar1 kr1 cr1)
 have z4:=z3.set (.bool false) (.slice ao2 k2 c2) (.bool false) (.slice ar1 kr1 cr1)
 clear z3
 unfold next8
 generalize ((((((((V.setCell ⟨p2,0,none⟩ (.bool false)).setCell ⟨p2,1,none⟩ (.slice ao4 k4 c4)).setCell ⟨p2,2,none⟩ (.bool false)).setCell ⟨p2,3,none⟩ (.slice ar2 kr2 cr2)).setCell ⟨p3,0,none⟩ (.bool false)).setCell ⟨p3,1,none⟩ (.slice ao2 k2 c2)).setCell ⟨p3,2,none⟩ (.bool false)).setCell ⟨p3,3,none⟩ (.slice ar1 kr1 cr1))=U at q1 q2 q3 q4 k8 z5 z4 ⊢
 have dd:Kept U U.drew:=(Kept.refl U).drew
 subst b1 b2
 exact⟨k8.trans dd,z5.kept dd,z4.kept dd,q2.kept dd,q4.kept dd,q1.kept dd,q3.kept dd,rv,rr2,ry,rr1,Nat.pos_of_ne_zero p2',Nat.pos_of_ne_zero p1,by rw[Nat.mul_comm (M.val v),Nat.mul_comm (M.val y)];exact hT⟩
theorem compare_r (ao1 ao2 ao3 ao4:Option Addr)(k1 c1 k2 c2 k3 c3 k4 c4:Nat)(x y u v:List Nat)(w:World)(hx:Sl w (.slice ao1 k1 c1) x)(hy:Sl w (.slice ao2 k2 c2) y)(hu:Sl w (.slice ao3 k3 c3) u)(hv:Sl w (.slice ao4 k4 c4) v)(rx:R false x)(ry:R false y)(ru:R false u)(rv:R false v)(py:0<M.val y)(pv:0<M.val v) :
  Calls Tryz.prog 226 #[.agg #[.bool false,.slice ao1 k1 c1,.bool false,.slice ao2 k2 c2],.agg #[.bool false,.slice ao3 k3 c3,.bool false,.slice ao4 k4 c4]] w fun e w'=>e=.returned (.int .i64 (isgn ((M.val x*M.val v:Nat):Int) ((M.val u*M.val y:Nat):Int)))/\Kept w w':=by
 obtain⟨T,HT⟩:∃T,Hid (isgn ((M.val x*M.val v:Nat):Int) ((M.val u*M.val y:Nat):Int)=T):=⟨_,rfl⟩
 rw[HT.out]
 have HA:Hid (∀wr,Kept w wr->RRow wr w.heap.size (.bool false) (.slice ao1 k1 c1) (.bool false) (.slice ao2 k2 c2)->RRow wr (w.heap.size+1) (.bool false) (.slice ao3 k3 c3) (.bool false) (.slice ao4 k4 c4)->AtHead w wr T ao1 ao2 ao3 ao4 k1 c1 k2 c2 k3 c3 k4 c4 x y u v):=fun wr h1 h2 h3=>⟨h1,h2,h3,.inl hx,.inl hy,.inl hu,.inl hv,rx,ry,ru,rv,py,pv,HT.out⟩
 clear hx hy hu hv rx ry ru rv py pv HT
 go_enter Tryz.func226,Tryz.ntmps226
 go_wp2
 go_loopw [11] (fun _ wr=>∃(ao1 ao2 ao3 ao4:Option Addr) (k1 c1 k2 c2 k3 c3 k4 c4:Nat) (x y u v:List Nat),Hid (AtHead w wr T ao1 ao2 ao3 ao4 k1 c1 k2 c2 k3 c3 k4 c4 x y u v)) (fun _ wr=>rdd wr w.heap.size+rdd wr (w.heap.size+1))
 case atStart=>
  refine⟨ao1,ao2,ao3,ao4,k1,c1,k2,c2,k3,c3,k4,c4,x,y,u,v,HA.out _ (((Kept.refl w).alloc _).alloc _) ((RRow.alloc w _ _ _ _).kept ((Kept.refl _).alloc _)) ?_⟩
  have h:=RRow.alloc (w.alloc (.cells #[.bool false,.slice ao1 k1 c1,.bool false,.slice ao2 k2 c2] 213)) (.bool false) (.slice ao3 k3 c3) (.bool false) (.slice ao4 k4 c4)
  simp only[World.size_alloc]at h
  exact h
 case round=>
  clear HA
  obtain⟨ao1,ao2,ao3,ao4,k1,c1,k2,c2,k3,c3,k4,c4,x,y,u,v,HH⟩:=hrel
  obtain⟨p3,hp3⟩:∃p,p=w.heap.size+1:=⟨_,rfl⟩
  obtain⟨p2,hp2⟩:∃p,p=w.heap.size:=⟨_,rfl⟩
  have HP:Hid (p3=w.heap.size+1/\p2=w.heap.size):=⟨hp3,hp2⟩
  rw[<-hp3,<-hp2]
  have H0:Hid (Kept w wr/\RRow wr p2 (.bool false) (.slice ao1 k1 c1) (.bool false) (.slice ao2 k2 c2)/\RRow wr p3 (.bool false) (.slice ao3 k3 c3) (.bool false) (.slice ao4 k4 c4)):=by rw[hp3,hp2];exact⟨HH.out.1,HH.out.2.1,HH.out.2.2.1⟩
  have H1:=hid' HH.out.2.2.2
  have K0:Hid (Kept w wr):=HH.out.1
  have K1:=hid' H0.out.2.1
  have K2:=hid' H0.out.2.2
  clear hp3 hp2 HH
  have f0:=H0.out.2.1.c0
  have f1:=H0.out.2.1.c1
  have f2:=H0.out.2.1.c2
  have f3:=H0.out.2.1.c3
  go_wp2_with fail
  refine(quoRem_r false false (.slice ao1 k1 c1) (.slice ao2 k2 c2) x y _ (H1.out.1.sl H0.out.1) (H1.out.2.1.sl H0.out.1) H1.out.2.2.2.2.1 H1.out.2.2.2.2.2.1 (val_len H1.out.2.2.2.2.2.2.2.2.1)).mono ?_
  rintro e w1 ⟨hk1,s1,aq1,kq1,cq1,q1,t1,ar1,kr1,cr1,r1,rfl,nq1,nr1,rq1,rr1,vq1,vr1⟩
  obtain⟨rfl,rfl,e1,l1⟩:=quo_nat rq1 rr1 H1.out.2.2.2.2.2.2.2.2.1 vq1 vr1
  have HQ1:Hid (M.Right false q1/\M.Right false r1/\M.val x=M.val q1*M.val y+M.val r1/\M.val r1<M.val y):=⟨rq1,rr1,e1,l1⟩
  clear f0 f1 f2 f3 rq1 rr1 vq1 vr1 e1 l1
  have HS1:Hid (p2<w1.heap.size):=Nat.lt_of_lt_of_le H0.out.2.1.lt hk1.size
  go_upto_region 2 with fail
  have i5:=IRow.alloc w1 (.bool false) (.slice aq1 kq1 cq1)
  have i6:=IRow.alloc (w1.alloc (.cells #[.bool false,.slice aq1 kq1 cq1] 211)) (.bool false) (.slice ar1 kr1 cr1)
  have i5:=i5.kept ((Kept.refl _).alloc (.cells #[.bool false,.slice ar1 kr1 cr1] 211))
  simp only[World.size_alloc]at i6
  have hK:Kept w1 ((w1.alloc (.cells #[.bool false,.slice aq1 kq1 cq1] 211)).alloc (.cells #[.bool false,.slice ar1 kr1 cr1] 211)):=((Kept.refl w1).alloc _).alloc _
  generalize (w1.alloc (.cells #[.bool false,.slice aq1 kq1 cq1] 211)).alloc (.cells #[.bool false,.slice ar1 kr1 cr1] 211)=W1 at i5 i6 hK ⊢
  have hk1:=hk1.trans hK
  have H0:Hid (Kept w W1/\RRow W1 p2 (.bool false) (.slice ao1 k1 c1) (.bool false) (.slice ao2 k2 c2)/\RRow W1 p3 (.bool false) (.slice ao3 k3 c3) (.bool false) (.slice ao4 k4 c4)):=⟨H0.out.1.trans hk1,H0.out.2.1.kept hk1,H0.out.2.2.kept hk1⟩
  have H1:Hid (Ok w W1 (.slice ao2 k2 c2) y/\Ok w W1 (.slice ao3 k3 c3) u/\Ok w W1 (.slice ao4 k4 c4) v/\R false y/\R false u/\R false v/\0<M.val y/\0<M.val v/\isgn ((M.val x*M.val v:Nat):Int) ((M.val u*M.val y:Nat):Int)=T/\Ok w W1 (.slice aq1 kq1 cq1) q1/\Ok w W1 (.slice ar1 kr1 cr1) r1/\rdd wr p2=M.val y/\rdd wr p3=M.val v):=by
   obtain⟨g1,g2,g3,g4,g5,g6,g7,g8,g9,g10,g11⟩:=H1.out
   exact⟨g2.kept hk1,g3.kept hk1,g4.kept hk1,g6,g7,g8,g9,g10,g11,.inr ((nq1.kept hK).mono (K0.out.size)),.inr ((nr1.kept hK).mono K0.out.size),rdd_of K1.out.c3 (g2.sl K0.out),rdd_of K2.out.c3 (g4.sl K0.out)⟩
  clear hk1 hK nq1 nr1 K0 K1 K2
  obtain⟨p6,hp6⟩:∃p,p=w1.heap.size+1:=⟨_,rfl⟩
  rw[<-hp6]at i6 ⊢
  obtain⟨p5,hp5⟩:∃p,p=w1.heap.size:=⟨_,rfl⟩
  rw[<-hp5]at i5 ⊢
  have H5:=hid' i5
  have H6:=hid' i6
  have H26:Hid (¬p2=p6):=by have h:=HS1.out;show ¬_;omega
  clear i5 i6 hp6 hp5
  have f0:=H0.out.2.2.c0
  have f1:=H0.out.2.2.c1
  have f2:=H0.out.2.2.c2
  have f3:=H0.out.2.2.c3
  go_wp2_with fail
  refine(quoRem_r false false (.slice ao3 k3 c3) (.slice ao4 k4 c4) u v _ (H1.out.2.1.sl H0.out.1) (H1.out.2.2.1.sl H0.out.1) H1.out.2.2.2.2.1 H1.out.2.2.2.2.2.1 (val_len H1.out.2.2.2.2.2.2.2.1)).mono ?_
  rintro e w2 ⟨hk2,s2,aq2,kq2,cq2,q2,t2,ar2,kr2,cr2,r2,rfl,nq2,nr2,rq2,rr2,vq2,vr2⟩
  obtain⟨rfl,rfl,e2,l2⟩:=quo_nat rq2 rr2 H1.out.2.2.2.2.2.2.2.1 vq2 vr2
  have HQ2:Hid (M.Right false q2/\M.Right false r2/\M.val u=M.val q2*M.val v+M.val r2/\M.val r2<M.val v):=⟨rq2,rr2,e2,l2⟩
  clear f0 f1 f2 f3 rq2 rr2 vq2 vr2 e2 l2
  go_upto_region 3 with fail
  have i7:=IRow.alloc w2 (.bool false) (.slice aq2 kq2 cq2)
  have i8:=IRow.alloc (w2.alloc (.cells #[.bool false,.slice aq2 kq2 cq2] 211)) (.bool false) (.slice ar2 kr2 cr2)
  have i7:=i7.kept ((Kept.refl _).alloc (.cells #[.bool false,.slice ar2 kr2 cr2] 211))
  simp only[World.size_alloc]at i8
  have hK:Kept w2 ((w2.alloc (.cells #[.bool false,.slice aq2 kq2 cq2] 211)).alloc (.cells #[.bool false,.slice ar2 kr2 cr2] 211)):=((Kept.refl w2).alloc _).alloc _
  generalize (w2.alloc (.cells #[.bool false,.slice aq2 kq2 cq2] 211)).alloc (.cells #[.bool false,.slice ar2 kr2 cr2] 211)=W2 at i7 i8 hK ⊢
  have hk2:=hk2.trans hK
  have H7':Hid (Ok w W2 (.slice aq2 kq2 cq2) q2/\Ok w W2 (.slice ar2 kr2 cr2) r2):=⟨.inr ((nq2.kept hK).mono H0.out.1.size),.inr ((nr2.kept hK).mono H0.out.1.size)⟩
  have H0:Hid (Kept w W2/\RRow W2 p2 (.bool false) (.slice ao1 k1 c1) (.bool false) (.slice ao2 k2 c2)/\RRow W2 p3 (.bool false) (.slice ao3 k3 c3) (.bool false) (.slice ao4 k4 c4)):=⟨H0.out.1.trans hk2,H0.out.2.1.kept hk2,H0.out.2.2.kept hk2⟩
  have H5:=hid' (H5.out.kept hk2)
  have H6:=hid' (H6.out.kept hk2)
  have H2:Hid (Ok w W2 (.slice ao2 k2 c2) y/\Ok w W2 (.slice ao4 k4 c4) v/\Ok w W2 (.slice aq1 kq1 cq1) q1/\Ok w W2 (.slice ar1 kr1 cr1) r1):=⟨H1.out.1.kept hk2,H1.out.2.2.1.kept hk2,H1.out.2.2.2.2.2.2.2.2.2.1.kept hk2,H1.out.2.2.2.2.2.2.2.2.2.2.1.kept hk2⟩
  clear hk2 hK nq2 nr2
  obtain⟨p8,hp8⟩:∃p,p=w2.heap.size+1:=⟨_,rfl⟩
  rw[<-hp8]at i8 ⊢
  obtain⟨p7,hp7⟩:∃p,p=w2.heap.size:=⟨_,rfl⟩
  rw[<-hp7]at i7 ⊢
  have H7:=hid' i7
  have H8:=hid' i8
  clear i7 i8 hp8 hp7
  have f0:=H5.out.c0
  have f1:=H5.out.c1
  have f2:=H7.out.c0
  have f3:=H7.out.c1
  go_wp2_with fail
  refine(icmp_any false false (.slice aq1 kq1 cq1) (.slice aq2 kq2 cq2) q1 q2 _ (H2.out.2.2.1.sl H0.out.1) (H7'.out.1.sl H0.out.1) (R.of_right HQ1.out.1) (R.of_right HQ2.out.1)).mono ?_
  rw[nat_int,nat_int]
  rintro e w3 ⟨rfl,hk3⟩
  have hT:=H1.out.2.2.2.2.2.2.2.2.1
  by_cases hne:M.val q1=M.val q2
  ·have hz:isgn ((M.val q1:Nat):Int) ((M.val q2:Nat):Int)=0:=by rw[hne];unfold isgn;simp
   rw[hz]
   have hT2:isgn ((M.val r1*M.val v:Nat):Int) ((M.val r2*M.val y:Nat):Int)=T:=(told_rest (x:=M.val x) (y:=M.val y) (u:=M.val u) (v:=M.val v) (q:=M.val q1) HQ1.out.2.2.1 (HQ2.out.2.2.1.trans (by rw[hne]))).symm.trans hT
   have HT2:=hid' hT2
   have H0:Hid (Kept w w3/\RRow w3 p2 (.bool false) (.slice ao1 k1 c1) (.bool false) (.slice ao2 k2 c2)/\RRow w3 p3 (.bool false) (.slice ao3 k3 c3) (.bool false) (.slice ao4 k4 c4)):=⟨H0.out.1.trans hk3,H0.out.2.1.kept hk3,H0.out.2.2.kept hk3⟩
   have H6:=hid' (H6.out.kept hk3)
   have H8:=hid' (H8.out.kept hk3)
   have H3:Hid (Ok w w3 (.slice ao2 k2 c2) y/\Ok w w3 (.slice ao4 k4 c4) v/\Ok w w3 (.slice ar1 kr1 cr1) r1/\Ok w w3 (.slice ar2 kr2 cr2) r2):=⟨H2.out.1.kept hk3,H2.out.2.1.kept hk3,H2.out.2.2.2.kept hk3,H7'.out.2.kept hk3⟩
   clear hne hT hT2 hk3 f0 f1 f2 f3 hz H5 H7 H2 H7'
   have f0:=H6.out.c0
   have f1:=H6.out.c1
   go_wp2_with fail
   refine(sign_any false ar1 kr1 cr1 r1 _ (H3.out.2.2.1.sl H0.out.1) (R.of_right HQ1.out.2.1)).mono ?_
   rw[nat_int,sgn_nat]
   rintro e w4 ⟨rfl,hk4⟩
   have H0:Hid (Kept w w4/\RRow w4 p2 (.bool false) (.slice ao1 k1 c1) (.bool false) (.slice ao2 k2 c2)/\RRow w4 p3 (.bool false) (.slice ao3 k3 c3) (.bool false) (.slice ao4 k4 c4)):=⟨H0.out.1.trans hk4,H0.out.2.1.kept hk4,H0.out.2.2.kept hk4⟩
   have H6:=hid' (H6.out.kept hk4)
   have H8:=hid' (H8.out.kept hk4)
   have H3:Hid (Ok w w4 (.slice ao2 k2 c2) y/\Ok w w4 (.slice ao4 k4 c4) v/\Ok w w4 (.slice ar1 kr1 cr1) r1/\Ok w w4 (.slice ar2 kr2 cr2) r2):=⟨H3.out.1.kept hk4,H3.out.2.1.kept hk4,H3.out.2.2.1.kept hk4,H3.out.2.2.2.kept hk4⟩
   clear hk4 f0 f1
   by_cases hr1:M.val r1=0
   ·rw[if_pos hr1]
    have HE:=hid' (told_end H1.out.2.2.2.2.2.2.2.1 H1.out.2.2.2.2.2.2.1 (r:=M.val r1) (r':=M.val r2) (.inl hr1))
    clear hr1
    have f0:=H6.out.c0
    have f1:=H6.out.c1
    have f2:=H8.out.c0
    have f3:=H8.out.c1
    go_wp2_with fail
    go_region_held3 (fun w'=>w'.cell? ⟨p6,0,none⟩=some (.bool false)/\w'.cell? ⟨p6,1,none⟩=some (.slice ar1 kr1 cr1)/\w'.cell? ⟨p8,0,none⟩=some (.bool false)/\w'.cell? ⟨p8,1,none⟩=some (.slice ar2 kr2 cr2)) (go_keep) (first
     |(go_at_call_of 224 (Value.slice ar1 kr1 cr1);refine(sign_any false ar1 kr1 cr1 r1 _ ((H3.out.2.2.1.kept (Kept.refl _).drew).sl (H0.out.1.drew)) (R.of_right HQ1.out.2.1)).mono ?_;rw[nat_int];rintro e w6 ⟨rfl,hk6⟩;have K6:=(Kept.refl w4).drew.trans hk6;have b0:=(H6.out.kept K6).c0;have b1:=(H6.out.kept K6).c1;have b2:=(H8.out.kept K6).c0;have b3:=(H8.out.kept K6).c1)
     |(go_at_call_of 224 (Value.slice ar2 kr2 cr2);refine(sign_any false ar2 kr2 cr2 r2 _ ((H3.out.2.2.2.kept K6).sl (H0.out.1.trans K6)) (R.of_right HQ2.out.2.1)).mono ?_;rw[nat_int];rintro e w7 ⟨rfl,hk7⟩;have K7:=K6.trans hk7;have d0:=(H6.out.kept K7).c0;have d1:=(H6.out.kept K7).c1;have d2:=(H8.out.kept K7).c0;have d3:=(H8.out.kept K7).c1)
     | (go_at_call 225;refine(Compare_r _ _ _).mono ?_;rw[<-HE.out,HT2.out];rintro e w8 ⟨rfl,hk8⟩;have K8:=K7.trans hk8;have j0:=(H6.out.kept K8).c0;have j1:=(H6.out.kept K8).c1;have j2:=(H8.out.kept K8).c0;have j3:=(H8.out.kept K8).c1))
    have HK8:Hid (Kept w w8):=H0.out.1.trans K8
    clear f0 f1 f2 f3 b0 b1 b2 b3 d0 d1 d2 d3 j0 j1 j2 j3 hk6 hk7 hk8 K6 K7 K8
    go_wp2
    go_ret
    exact⟨rfl,HK8.out⟩
   ·rw[if_neg hr1]
    have HR1:=hid' hr1
    clear hr1
    have f2:=H8.out.c0
    have f3:=H8.out.c1
    go_wp2_with fail
    refine(sign_any false ar2 kr2 cr2 r2 _ (H3.out.2.2.2.sl H0.out.1) (R.of_right HQ2.out.2.1)).mono ?_
    rw[nat_int,sgn_nat]
    rintro e w5 ⟨rfl,hk5⟩
    have H0:Hid (Kept w w5/\RRow w5 p2 (.bool false) (.slice ao1 k1 c1) (.bool false) (.slice ao2 k2 c2)/\RRow w5 p3 (.bool false) (.slice ao3 k3 c3) (.bool false) (.slice ao4 k4 c4)):=⟨H0.out.1.trans hk5,H0.out.2.1.kept hk5,H0.out.2.2.kept hk5⟩
    have H6:=hid' (H6.out.kept hk5)
    have H8:=hid' (H8.out.kept hk5)
    have H3:Hid (Ok w w5 (.slice ao2 k2 c2) y/\Ok w w5 (.slice ao4 k4 c4) v/\Ok w w5 (.slice ar1 kr1 cr1) r1/\Ok w w5 (.slice ar2 kr2 cr2) r2):=⟨H3.out.1.kept hk5,H3.out.2.1.kept hk5,H3.out.2.2.1.kept hk5,H3.out.2.2.2.kept hk5⟩
    clear hk5 f2 f3
    by_cases hr2:M.val r2=0
    ·rw[if_pos hr2]
     have HE:=hid' (told_end H1.out.2.2.2.2.2.2.2.1 H1.out.2.2.2.2.2.2.1 (r:=M.val r1) (r':=M.val r2) (.inr hr2))
     clear hr2
     have f0:=H6.out.c0
     have f1:=H6.out.c1
     have f2:=H8.out.c0
     have f3:=H8.out.c1
     go_wp2_with fail
     go_region_held3 (fun w'=>w'.cell? ⟨p6,0,none⟩=some (.bool false)/\w'.cell? ⟨p6,1,none⟩=some (.slice ar1 kr1 cr1)/\w'.cell? ⟨p8,0,none⟩=some (.bool false)/\w'.cell? ⟨p8,1,none⟩=some (.slice ar2 kr2 cr2)) (go_keep) (first
      |(go_at_call_of 224 (Value.slice ar1 kr1 cr1);refine(sign_any false ar1 kr1 cr1 r1 _ ((H3.out.2.2.1.kept (Kept.refl _).drew).sl (H0.out.1.drew)) (R.of_right HQ1.out.2.1)).mono ?_;rw[nat_int];rintro e w6 ⟨rfl,hk6⟩;have K6:=(Kept.refl w5).drew.trans hk6;have b0:=(H6.out.kept K6).c0;have b1:=(H6.out.kept K6).c1;have b2:=(H8.out.kept K6).c0;have b3:=(H8.out.kept K6).c1)
      |(go_at_call_of 224 (Value.slice ar2 kr2 cr2);refine(sign_any false ar2 kr2 cr2 r2 _ ((H3.out.2.2.2.kept K6).sl (H0.out.1.trans K6)) (R.of_right HQ2.out.2.1)).mono ?_;rw[nat_int];rintro e w7 ⟨rfl,hk7⟩;have K7:=K6.trans hk7;have d0:=(H6.out.kept K7).c0;have d1:=(H6.out.kept K7).c1;have d2:=(H8.out.kept K7).c0;have d3:=(H8.out.kept K7).c1)
      | (go_at_call 225;refine(Compare_r _ _ _).mono ?_;rw[<-HE.out,HT2.out];rintro e w8 ⟨rfl,hk8⟩;have K8:=K7.trans hk8;have j0:=(H6.out.kept K8).c0;have j1:=(H6.out.kept K8).c1;have j2:=(H8.out.kept K8).c0;have j3:=(H8.out.kept K8).c1))
     have HK8:Hid (Kept w w8):=H0.out.1.trans K8
     clear f0 f1 f2 f3 b0 b1 b2 b3 d0 d1 d2 d3 j0 j1 j2 j3 hk6 hk7 hk8 K6 K7 K8
     go_wp2
     go_ret
     exact⟨rfl,HK8.out⟩
    ·rw[if_neg hr2]
     have HR2:=hid' hr2
     clear hr2
     have f0:=H6.out.c0
     have f1:=H6.out.c1
     have f2:=H8.out.c0
     have f3:=H8.out.c1
     have g0:=H0.out.2.1.c0
     have g1:=H0.out.2.1.c1
     have g2:=H0.out.2.1.c2
     have g3:=H0.out.2.1.c3
     have j0:=H0.out.2.2.c0
     have j1:=H0.out.2.2.c1
     have j2:=H0.out.2.2.c2
     have j3:=H0.out.2.2.c3
     have o0:=H0.out.2.1.fz 0
     have o1:=H0.out.2.1.fz 1
     have o2:=H0.out.2.1.fz 2
     have o3:=H0.out.2.1.fz 3
     have o4:=H0.out.2.2.fz 0
     have o5:=H0.out.2.2.fz 1
     have o6:=H0.out.2.2.fz 2
     have o7:=H0.out.2.2.fz 3
     have n23:¬(p2=p3):=by have:=HP.out;omega
     have n32:¬(p3=p2):=by have:=HP.out;omega
     have n26:=H26.out
     go_wp2_with fail
     go_region
     all_goals
      clear n26
      have K5:=H0.out
      have HX:Hid (AtHead w (next8 w5 p2 p3 ao4 ar2 ao2 ar1 k4 c4 kr2 cr2 k2 c2 kr1 cr1) T ao4 ar2 ao2 ar1 k4 c4 kr2 cr2 k2 c2 kr1 cr1 v r2 y r1):=head_next HP.out.1 HP.out.2 K5.1 K5.2.1 K5.2.2 H3.out.1 H3.out.2.1 H3.out.2.2.1 H3.out.2.2.2 H1.out.2.2.2.1 H1.out.2.2.2.2.2.1 (R.of_right HQ1.out.2.1) (R.of_right HQ2.out.2.1) HR1.out HR2.out HT2.out
      have HM:Hid (rdd wr p2=M.val y/\rdd wr p3=M.val v):=⟨H1.out.2.2.2.2.2.2.2.2.2.2.2.1,H1.out.2.2.2.2.2.2.2.2.2.2.2.2⟩
      have hU:next8 w5 p2 p3 ao4 ar2 ao2 ar1 k4 c4 kr2 cr2 k2 c2 kr1 cr1=((((((((w5.setCell ⟨p2,0,none⟩ (.bool false)).setCell ⟨p2,1,none⟩ (.slice ao4 k4 c4)).setCell ⟨p2,2,none⟩ (.bool false)).setCell ⟨p2,3,none⟩ (.slice ar2 kr2 cr2)).setCell ⟨p3,0,none⟩ (.bool false)).setCell ⟨p3,1,none⟩ (.slice ao2 k2 c2)).setCell ⟨p3,2,none⟩ (.bool false)).setCell ⟨p3,3,none⟩ (.slice ar1 kr1 cr1)).drew:=rfl
      rw[<-hU]
      generalize next8 w5 p2 p3 ao4 ar2 ao2 ar1 k4 c4 kr2 cr2 k2 c2 kr1 cr1=U at HX ⊢
      clear hU
      clear K5 f0 f1 f2 f3 g0 g1 g2 g3 j0 j1 j2 j3 o0 o1 o2 o3 o4 o5 o6 o7
      go_wp2
      go_roundw
      case rel=>exact⟨_,_,_,_,_,_,_,_,_,_,_,_,_,_,_,_,HX.out⟩
      case measure=>
       obtain⟨x1,x2,x3,x4,x5,x6,x7,_⟩:=HX.out
       obtain⟨b1,b2⟩:=HP.out
       have m1:=rdd_of x2.c3 (x5.sl x1)
       have m2:=rdd_of x3.c3 (x7.sl x1)
       have m3:=HM.out
       have m4:=HQ1.out.2.2.2
       have m5:=HQ2.out.2.2.2
       rw[<-b2]at m1
       rw[<-b1]at m2
       show rdd U p2+rdd U p3<rdd wr p2+rdd wr p3
       omega
  ·have HT3:Hid (isgn ((M.val q1:Nat):Int) ((M.val q2:Nat):Int)=T):=by
    show _=_
    rw[<-told_whole HQ1.out.2.2.1 HQ2.out.2.2.1 HQ1.out.2.2.2 HQ2.out.2.2.2 hne];exact hT
   have hz:(isgn ((M.val q1:Nat):Int) ((M.val q2:Nat):Int) != 0)=true:=by
    rw[bne_iff_ne];unfold isgn;split <;> (try split) <;> omega
   have HK3:Hid (Kept w w3):=H0.out.1.trans hk3
   clear hne hT hk3 f0 f1 f2 f3
   go_wp2
   go_ret
   exact⟨ret_i64 HT3.out,HK3.out⟩
theorem cross_diff {x x':Int}{y y':Nat}(hy:0<y)(hy':0<y')(h:isgn x 0≠isgn x' 0):isgn (x*y') (x'*y)=isgn (isgn x 0) (isgn x' 0):=by
  have p:∀(z:Int) (n:Nat),0<n->(0<z->0<z*n)/\(z<0->z*n<0):=fun z n hn=>⟨fun h=>Int.mul_pos h (by omega),fun h=>Int.mul_neg_of_neg_of_pos h (by omega)⟩
  have h1:=p x y' hy'
  have h2:=p x' y hy
  have z1:x=0->x*y'=0:=fun e=>by rw[e];simp
  have z2:x'=0->x'*y=0:=fun e=>by rw[e];simp
  generalize x*(y':Int)=A at *
  generalize x'*(y:Int)=B at *
  unfold isgn at *
  rcases Int.lt_trichotomy x 0 with a|a|a <;> rcases Int.lt_trichotomy x' 0 with b|b|b
  all_goals
    first
    |(exfalso;simp[a,b]at h;done)
    | (have k1:=h1.1;have k2:=h1.2;have k3:=h2.1;have k4:=h2.2
       split <;> (try split) <;> (try split) <;> (try split) <;> (try split) <;> (try split) <;> omega)
theorem cross_neg {m n:Bool}{a b:List Nat}{y y':Nat}(ha:M.int m a<0)(hb:M.int n b<0):isgn ((M.val b*y:Nat):Int) ((M.val a*y':Nat):Int)=isgn (M.int m a*y') (M.int n b*y):=by
  have e1:M.int m a=-(M.val a:Int):=by have:=M.natAbs_int m a;omega
  have e2:M.int n b=-(M.val b:Int):=by have:=M.natAbs_int n b;omega
  rw[e1,e2,Int.neg_mul,Int.neg_mul]
  simp only[Int.natCast_mul]
  generalize (M.val a:Int)*y'=A
  generalize (M.val b:Int)*y=B
  exact isgn_eq (by omega) (by omega)
theorem cross_pos {m n:Bool}{a b:List Nat}{y y':Nat}(ha:0<M.int m a)(hb:0<M.int n b):isgn ((M.val a*y':Nat):Int) ((M.val b*y:Nat):Int)=isgn (M.int m a*y') (M.int n b*y):=by
  have e1:M.int m a=(M.val a:Int):=by have:=M.natAbs_int m a;omega
  have e2:M.int n b=(M.val b:Int):=by have:=M.natAbs_int n b;omega
  rw[e1,e2]
  simp only[Int.natCast_mul]
theorem sgn_three' (x:Int):isgn x 0=-1∨isgn x 0=0∨isgn x 0=1:=by unfold isgn;split <;> (try split) <;> simp
theorem isgn_is (x:Int):(isgn x 0=-1->x<0)/\(isgn x 0=0->x=0)/\(isgn x 0=1->0<x):=by
  unfold isgn;split <;> (try split) <;> omega
theorem neg_len {m:Bool}{l:List Nat}(h:R m l)(hn:M.int m l<0):m=true/\0<l.length/\R false l:=by
  have h1:m=true:=by
    cases m
    · have:=int_pos_ge l;omega
    · rfl
  subst h1
  refine⟨rfl,?_,h.1,fun _=>rfl,h.2.2⟩
  apply Classical.byContradiction
  intro h0
  have:=h.2.1 (by omega)
  simp at this
theorem pos_sgn {m:Bool}{l:List Nat}(h:R m l)(hp:0<M.int m l):m=false:=by
  cases m
  · rfl
  · have:=int_neg_lt h;omega
theorem Cmp_diff (m nA n nB:Bool)(a1 a2 b1 b2:Option Addr)(k1 c1 k2 c2 k3 c3 k4 c4:Nat)(an ad bn bd:List Nat)(w:World)(ha:Sl w (.slice a1 k1 c1) an)(had:Sl w (.slice a2 k2 c2) ad)(hb:Sl w (.slice b1 k3 c3) bn)(hbd:Sl w (.slice b2 k4 c4) bd)(hA:RatR m nA an ad)(hB:RatR n nB bn bd)(hne:isgn (M.int m an) 0≠isgn (M.int n bn) 0) :
    Calls Tryz.prog 203 #[.agg #[.bool m,.slice a1 k1 c1,.bool nA,.slice a2 k2 c2],.agg #[.bool n,.slice b1 k3 c3,.bool nB,.slice b2 k4 c4]] w fun e w'=>e=.returned (.tuple #[.int .i64 (isgn (M.int m an*M.val bd) (M.int n bn*M.val ad)),.int .i64 0])/\Kept w w':=by
  obtain⟨T,HT⟩:∃T,Hid (isgn (M.int m an*M.val bd) (M.int n bn*M.val ad)=T):=⟨_,rfl⟩
  rw[HT.out]
  obtain rfl:=hA.sgn
  obtain rfl:=hB.sgn
  have HA:Hid (Sl w (.slice a1 k1 c1) an/\Sl w (.slice a2 k2 c2) ad/\Sl w (.slice b1 k3 c3) bn/\Sl w (.slice b2 k4 c4) bd):=⟨ha,had,hb,hbd⟩
  have HR:Hid (RatR m false an ad/\RatR n false bn bd):=⟨hA,hB⟩
  have HL:Hid (an.length<=72/\ad.length<=72/\bn.length<=72/\bd.length<=72):=⟨hA.ra.1,hA.rd.1,hB.ra.1,hB.rd.1⟩
  obtain⟨sa,HSA⟩:∃s,Hid (isgn (M.int m an) 0=s):=⟨_,rfl⟩
  obtain⟨sb,HSB⟩:∃s,Hid (isgn (M.int n bn) 0=s):=⟨_,rfl⟩
  have HT2:Hid (isgn sa sb=T):=by show _=_;rw[<-HSA.out,<-HSB.out,<-HT.out];exact(cross_diff hA.vpos hB.vpos hne).symm
  have hd:(sa != sb)=true:=by rw[bne_iff_ne,<-HSA.out,<-HSB.out];exact hne
  clear hne
  clear ha had hb hbd hA hB
  have K3:∀x y t,Kept w (((w.alloc x).alloc y).alloc t):=fun x y t=>(((Kept.refl w).alloc x).alloc y).alloc t
  go_enter Tryz.func203,Tryz.ntmps203
  go_wp2_with fail
  refine(refusal_any _ (w.heap.size+1+1) 0 2 2 _ _ _ _ _ _ _ _ _ _ _ (fun _=>rfl) (by omega) (RatAll.two (m:=m) (n:=false) (p:=n) (q:=false) (a1:=a1) (a2:=a2) (b1:=b1) (b2:=b2) (k1:=k1) (c1:=c1) (k2:=k2) (c2:=c2) (k3:=k3) (c3:=c3) (k4:=k4) (c4:=c4) (by rw[World.cell?_alloc_at _ _ _ _ (by simp)];rfl) (by rw[World.cell?_alloc_at _ _ _ _ (by simp)];rfl) (by rw[World.cell?_alloc_at _ _ _ _ (by simp)];rfl) (by rw[World.cell?_alloc_at _ _ _ _ (by simp)];rfl) (by rw[World.cell?_alloc_at _ _ _ _ (by simp)];rfl) (by rw[World.cell?_alloc_at _ _ _ _ (by simp)];rfl) (by rw[World.cell?_alloc_at _ _ _ _ (by simp)];rfl) (by rw[World.cell?_alloc_at _ _ _ _ (by simp)];rfl) (HA.out.1.kept (K3 _ _ _)) (HA.out.2.1.kept (K3 _ _ _)) (HA.out.2.2.1.kept (K3 _ _ _)) (HA.out.2.2.2.kept (K3 _ _ _)) (by have:=HL.out;omega) (by have:=HL.out;omega) (by have:=HL.out;omega) (by have:=HL.out;omega))).mono ?_
  rintro e w1 ⟨hk,c,rfl,hc⟩
  obtain rfl:c=0:=Refused.two HR.out.1 HR.out.2 hc
  clear hc
  have rA:=(RRow.alloc w (.bool m) (.slice a1 k1 c1) (.bool false) (.slice a2 k2 c2))
  have rB:=(RRow.alloc (w.alloc (.cells #[.bool m,.slice a1 k1 c1,.bool false,.slice a2 k2 c2] 213)) (.bool n) (.slice b1 k3 c3) (.bool false) (.slice b2 k4 c4))
  have rA:=rA.kept ((((Kept.refl _).alloc _).alloc _).trans hk)
  have rB:=rB.kept (((Kept.refl _).alloc _).trans hk)
  simp only[World.size_alloc]at rB
  have HK:=hid' ((K3 _ _ _).trans hk)
  have Hr:=hid' rA
  have Hs:=hid' rB
  clear hk K3 rA rB
  have f0:=Hr.out.c0
  have f1:=Hr.out.c1
  go_wp2_with fail
  refine(sign_any m a1 k1 c1 an _ (HA.out.1.kept HK.out) HR.out.1.ra).mono ?_
  rw[HSA.out]
  rintro e w2 ⟨rfl,hk⟩
  have Hr:=hid' (Hr.out.kept hk)
  have Hs:=hid' (Hs.out.kept hk)
  have HK:=hid' (HK.out.trans hk)
  clear hk f0 f1
  have f0:=Hs.out.c0
  have f1:=Hs.out.c1
  go_wp2_with fail
  refine(sign_any n b1 k3 c3 bn _ (HA.out.2.2.1.kept HK.out) HR.out.2.ra).mono ?_
  rw[HSB.out]
  rintro e w3 ⟨rfl,hk⟩
  have Hr:=hid' (Hr.out.kept hk)
  have Hs:=hid' (Hs.out.kept hk)
  have HK:=hid' (HK.out.trans hk)
  clear hk f0 f1
  have f0:=Hs.out.c0
  have f1:=Hs.out.c1
  go_wp2_with fail
  refine(sign_any n b1 k3 c3 bn _ (HA.out.2.2.1.kept HK.out) HR.out.2.ra).mono ?_
  rw[HSB.out]
  rintro e w4 ⟨rfl,hk⟩
  have HK:=hid' (HK.out.trans hk)
  clear hk f0 f1
  go_wp2_with fail
  refine(Compare_r sa sb _).mono ?_
  rw[HT2.out]
  rintro e w5 ⟨rfl,hk⟩
  have HK:=hid' (HK.out.trans hk)
  clear hk
  go_wp2
  refine bodyPost_ret (v:=.tuple #[.int .i64 T,.int .i64 0]) (by simp[results,Tryz.results203,go_sem]) rfl ⟨rfl,HK.out⟩
theorem Cmp_zero (m nA n nB:Bool)(a1 a2 b1 b2:Option Addr)(k1 c1 k2 c2 k3 c3 k4 c4:Nat)(an ad bn bd:List Nat)(w:World)(ha:Sl w (.slice a1 k1 c1) an)(had:Sl w (.slice a2 k2 c2) ad)(hb:Sl w (.slice b1 k3 c3) bn)(hbd:Sl w (.slice b2 k4 c4) bd)(hA:RatR m nA an ad)(hB:RatR n nB bn bd)(hz:isgn (M.int m an) 0=0)(hz':isgn (M.int n bn) 0=0) :
    Calls Tryz.prog 203 #[.agg #[.bool m,.slice a1 k1 c1,.bool nA,.slice a2 k2 c2],.agg #[.bool n,.slice b1 k3 c3,.bool nB,.slice b2 k4 c4]] w fun e w'=>e=.returned (.tuple #[.int .i64 (isgn (M.int m an*M.val bd) (M.int n bn*M.val ad)),.int .i64 0])/\Kept w w':=by
  obtain⟨T,HT⟩:∃T,Hid (isgn (M.int m an*M.val bd) (M.int n bn*M.val ad)=T):=⟨_,rfl⟩
  rw[HT.out]
  obtain rfl:=hA.sgn
  obtain rfl:=hB.sgn
  have HA:Hid (Sl w (.slice a1 k1 c1) an/\Sl w (.slice a2 k2 c2) ad/\Sl w (.slice b1 k3 c3) bn/\Sl w (.slice b2 k4 c4) bd):=⟨ha,had,hb,hbd⟩
  have HR:Hid (RatR m false an ad/\RatR n false bn bd):=⟨hA,hB⟩
  have HL:Hid (an.length<=72/\ad.length<=72/\bn.length<=72/\bd.length<=72):=⟨hA.ra.1,hA.rd.1,hB.ra.1,hB.rd.1⟩
  have HSA:Hid (isgn (M.int m an) 0=0):=hz
  have HSB:Hid (isgn (M.int n bn) 0=0):=hz'
  have HT2:T=0:=by rw[<-HT.out,(isgn_is _).2.1 hz,(isgn_is _).2.1 hz'];simp[isgn]
  subst HT2
  clear hz hz'
  clear ha had hb hbd hA hB
  have K3:∀x y t,Kept w (((w.alloc x).alloc y).alloc t):=fun x y t=>(((Kept.refl w).alloc x).alloc y).alloc t
  go_enter Tryz.func203,Tryz.ntmps203
  go_wp2_with fail
  refine(refusal_any _ (w.heap.size+1+1) 0 2 2 _ _ _ _ _ _ _ _ _ _ _ (fun _=>rfl) (by omega) (RatAll.two (m:=m) (n:=false) (p:=n) (q:=false) (a1:=a1) (a2:=a2) (b1:=b1) (b2:=b2) (k1:=k1) (c1:=c1) (k2:=k2) (c2:=c2) (k3:=k3) (c3:=c3) (k4:=k4) (c4:=c4) (by rw[World.cell?_alloc_at _ _ _ _ (by simp)];rfl) (by rw[World.cell?_alloc_at _ _ _ _ (by simp)];rfl) (by rw[World.cell?_alloc_at _ _ _ _ (by simp)];rfl) (by rw[World.cell?_alloc_at _ _ _ _ (by simp)];rfl) (by rw[World.cell?_alloc_at _ _ _ _ (by simp)];rfl) (by rw[World.cell?_alloc_at _ _ _ _ (by simp)];rfl) (by rw[World.cell?_alloc_at _ _ _ _ (by simp)];rfl) (by rw[World.cell?_alloc_at _ _ _ _ (by simp)];rfl) (HA.out.1.kept (K3 _ _ _)) (HA.out.2.1.kept (K3 _ _ _)) (HA.out.2.2.1.kept (K3 _ _ _)) (HA.out.2.2.2.kept (K3 _ _ _)) (by have:=HL.out;omega) (by have:=HL.out;omega) (by have:=HL.out;omega) (by have:=HL.out;omega))).mono ?_
  rintro e w1 ⟨hk,c,rfl,hc⟩
  obtain rfl:c=0:=Refused.two HR.out.1 HR.out.2 hc
  clear hc
  have rA:=(RRow.alloc w (.bool m) (.slice a1 k1 c1) (.bool false) (.slice a2 k2 c2))
  have rB:=(RRow.alloc (w.alloc (.cells #[.bool m,.slice a1 k1 c1,.bool false,.slice a2 k2 c2] 213)) (.bool n) (.slice b1 k3 c3) (.bool false) (.slice b2 k4 c4))
  have rA:=rA.kept ((((Kept.refl _).alloc _).alloc _).trans hk)
  have rB:=rB.kept (((Kept.refl _).alloc _).trans hk)
  simp only[World.size_alloc]at rB
  have HK:=hid' ((K3 _ _ _).trans hk)
  have Hr:=hid' rA
  have Hs:=hid' rB
  clear hk K3 rA rB
  have f0:=Hr.out.c0
  have f1:=Hr.out.c1
  go_wp2_with fail
  refine(sign_any m a1 k1 c1 an _ (HA.out.1.kept HK.out) HR.out.1.ra).mono ?_
  rw[HSA.out]
  rintro e w2 ⟨rfl,hk⟩
  have Hr:=hid' (Hr.out.kept hk)
  have Hs:=hid' (Hs.out.kept hk)
  have HK:=hid' (HK.out.trans hk)
  clear hk f0 f1
  have f0:=Hs.out.c0
  have f1:=Hs.out.c1
  go_wp2_with fail
  refine(sign_any n b1 k3 c3 bn _ (HA.out.2.2.1.kept HK.out) HR.out.2.ra).mono ?_
  rw[HSB.out]
  rintro e w3 ⟨rfl,hk⟩
  have Hr:=hid' (Hr.out.kept hk)
  have Hs:=hid' (Hs.out.kept hk)
  have HK:=hid' (HK.out.trans hk)
  clear hk f0 f1
  go_wp2
  refine bodyPost_ret (v:=.tuple #[.int .i64 0,.int .i64 0]) (by simp[results,Tryz.results203,go_sem]) rfl ⟨rfl,HK.out⟩
theorem Cmp_pos (m nA n nB:Bool)(a1 a2 b1 b2:Option Addr)(k1 c1 k2 c2 k3 c3 k4 c4:Nat)(an ad bn bd:List Nat)(w:World)(ha:Sl w (.slice a1 k1 c1) an)(had:Sl w (.slice a2 k2 c2) ad)(hb:Sl w (.slice b1 k3 c3) bn)(hbd:Sl w (.slice b2 k4 c4) bd)(hA:RatR m nA an ad)(hB:RatR n nB bn bd)(hz:isgn (M.int m an) 0=1)(hz':isgn (M.int n bn) 0=1) :
    Calls Tryz.prog 203 #[.agg #[.bool m,.slice a1 k1 c1,.bool nA,.slice a2 k2 c2],.agg #[.bool n,.slice b1 k3 c3,.bool nB,.slice b2 k4 c4]] w fun e w'=>e=.returned (.tuple #[.int .i64 (isgn (M.int m an*M.val bd) (M.int n bn*M.val ad)),.int .i64 0])/\Kept w w':=by
  obtain⟨T,HT⟩:∃T,Hid (isgn (M.int m an*M.val bd) (M.int n bn*M.val ad)=T):=⟨_,rfl⟩
  rw[HT.out]
  obtain rfl:=hA.sgn
  obtain rfl:=hB.sgn
  have HA:Hid (Sl w (.slice a1 k1 c1) an/\Sl w (.slice a2 k2 c2) ad/\Sl w (.slice b1 k3 c3) bn/\Sl w (.slice b2 k4 c4) bd):=⟨ha,had,hb,hbd⟩
  have HR:Hid (RatR m false an ad/\RatR n false bn bd):=⟨hA,hB⟩
  have HL:Hid (an.length<=72/\ad.length<=72/\bn.length<=72/\bd.length<=72):=⟨hA.ra.1,hA.rd.1,hB.ra.1,hB.rd.1⟩
  have HSA:Hid (isgn (M.int m an) 0=1):=hz
  have HSB:Hid (isgn (M.int n bn) 0=1):=hz'
  obtain rfl:m=false:=pos_sgn hA.ra ((isgn_is _).2.2 hz)
  obtain rfl:n=false:=pos_sgn hB.ra ((isgn_is _).2.2 hz')
  have HT2:Hid (isgn ((M.val an*M.val bd:Nat):Int) ((M.val bn*M.val ad:Nat):Int)=T):=by show _=_;rw[<-HT.out];exact cross_pos ((isgn_is _).2.2 hz) ((isgn_is _).2.2 hz')
  clear hz hz'
  clear ha had hb hbd hA hB
  have K3:∀x y t,Kept w (((w.alloc x).alloc y).alloc t):=fun x y t=>(((Kept.refl w).alloc x).alloc y).alloc t
  go_enter Tryz.func203,Tryz.ntmps203
  go_wp2_with fail
  refine(refusal_any _ (w.heap.size+1+1) 0 2 2 _ _ _ _ _ _ _ _ _ _ _ (fun _=>rfl) (by omega) (RatAll.two (m:=false) (n:=false) (p:=false) (q:=false) (a1:=a1) (a2:=a2) (b1:=b1) (b2:=b2) (k1:=k1) (c1:=c1) (k2:=k2) (c2:=c2) (k3:=k3) (c3:=c3) (k4:=k4) (c4:=c4) (by rw[World.cell?_alloc_at _ _ _ _ (by simp)];rfl) (by rw[World.cell?_alloc_at _ _ _ _ (by simp)];rfl) (by rw[World.cell?_alloc_at _ _ _ _ (by simp)];rfl) (by rw[World.cell?_alloc_at _ _ _ _ (by simp)];rfl) (by rw[World.cell?_alloc_at _ _ _ _ (by simp)];rfl) (by rw[World.cell?_alloc_at _ _ _ _ (by simp)];rfl) (by rw[World.cell?_alloc_at _ _ _ _ (by simp)];rfl) (by rw[World.cell?_alloc_at _ _ _ _ (by simp)];rfl) (HA.out.1.kept (K3 _ _ _)) (HA.out.2.1.kept (K3 _ _ _)) (HA.out.2.2.1.kept (K3 _ _ _)) (HA.out.2.2.2.kept (K3 _ _ _)) (by have:=HL.out;omega) (by have:=HL.out;omega) (by have:=HL.out;omega) (by have:=HL.out;omega))).mono ?_
  rintro e w1 ⟨hk,c,rfl,hc⟩
  obtain rfl:c=0:=Refused.two HR.out.1 HR.out.2 hc
  clear hc
  have rA:=(RRow.alloc w (.bool false) (.slice a1 k1 c1) (.bool false) (.slice a2 k2 c2))
  have rB:=(RRow.alloc (w.alloc (.cells #[.bool false,.slice a1 k1 c1,.bool false,.slice a2 k2 c2] 213)) (.bool false) (.slice b1 k3 c3) (.bool false) (.slice b2 k4 c4))
  have rA:=rA.kept ((((Kept.refl _).alloc _).alloc _).trans hk)
  have rB:=rB.kept (((Kept.refl _).alloc _).trans hk)
  simp only[World.size_alloc]at rB
  have HK:=hid' ((K3 _ _ _).trans hk)
  have Hr:=hid' rA
  have Hs:=hid' rB
  clear hk K3 rA rB
  have f0:=Hr.out.c0
  have f1:=Hr.out.c1
  go_wp2_with fail
  refine(sign_any false a1 k1 c1 an _ (HA.out.1.kept HK.out) HR.out.1.ra).mono ?_
  rw[HSA.out]
  rintro e w2 ⟨rfl,hk⟩
  have Hr:=hid' (Hr.out.kept hk)
  have Hs:=hid' (Hs.out.kept hk)
  have HK:=hid' (HK.out.trans hk)
  clear hk f0 f1
  have f0:=Hs.out.c0
  have f1:=Hs.out.c1
  go_wp2_with fail
  refine(sign_any false b1 k3 c3 bn _ (HA.out.2.2.1.kept HK.out) HR.out.2.ra).mono ?_
  rw[HSB.out]
  rintro e w3 ⟨rfl,hk⟩
  have Hr:=hid' (Hr.out.kept hk)
  have Hs:=hid' (Hs.out.kept hk)
  have HK:=hid' (HK.out.trans hk)
  clear hk f0 f1
  have f0:=Hr.out.c0
  have f1:=Hr.out.c1
  have f2:=Hr.out.c2
  have f3:=Hr.out.c3
  have f4:=Hs.out.c0
  have f5:=Hs.out.c1
  have f6:=Hs.out.c2
  have f7:=Hs.out.c3
  go_wp2_with fail
  refine(compare_r a1 a2 b1 b2 k1 c1 k2 c2 k3 c3 k4 c4 an ad bn bd _ (HA.out.1.kept HK.out) (HA.out.2.1.kept HK.out) (HA.out.2.2.1.kept HK.out) (HA.out.2.2.2.kept HK.out) HR.out.1.ra HR.out.1.rd HR.out.2.ra HR.out.2.rd HR.out.1.vpos HR.out.2.vpos).mono ?_
  rw[HT2.out]
  rintro e w4 ⟨rfl,hk⟩
  have HK:=hid' (HK.out.trans hk)
  clear hk
  go_wp2
  refine bodyPost_ret (v:=.tuple #[.int .i64 T,.int .i64 0]) (by simp[results,Tryz.results203,go_sem]) rfl ⟨rfl,HK.out⟩
theorem Cmp_neg (m nA n nB:Bool)(a1 a2 b1 b2:Option Addr)(k1 c1 k2 c2 k3 c3 k4 c4:Nat)(an ad bn bd:List Nat)(w:World)(ha:Sl w (.slice a1 k1 c1) an)(had:Sl w (.slice a2 k2 c2) ad)(hb:Sl w (.slice b1 k3 c3) bn)(hbd:Sl w (.slice b2 k4 c4) bd)(hA:RatR m nA an ad)(hB:RatR n nB bn bd)(hz:isgn (M.int m an) 0=-1)(hz':isgn (M.int n bn) 0=-1) :
    Calls Tryz.prog 203 #[.agg #[.bool m,.slice a1 k1 c1,.bool nA,.slice a2 k2 c2],.agg #[.bool n,.slice b1 k3 c3,.bool nB,.slice b2 k4 c4]] w fun e w'=>e=.returned (.tuple #[.int .i64 (isgn (M.int m an*M.val bd) (M.int n bn*M.val ad)),.int .i64 0])/\Kept w w':=by
  obtain⟨T,HT⟩:∃T,Hid (isgn (M.int m an*M.val bd) (M.int n bn*M.val ad)=T):=⟨_,rfl⟩
  rw[HT.out]
  obtain rfl:=hA.sgn
  obtain rfl:=hB.sgn
  have HA:Hid (Sl w (.slice a1 k1 c1) an/\Sl w (.slice a2 k2 c2) ad/\Sl w (.slice b1 k3 c3) bn/\Sl w (.slice b2 k4 c4) bd):=⟨ha,had,hb,hbd⟩
  have HR:Hid (RatR m false an ad/\RatR n false bn bd):=⟨hA,hB⟩
  have HL:Hid (an.length<=72/\ad.length<=72/\bn.length<=72/\bd.length<=72):=⟨hA.ra.1,hA.rd.1,hB.ra.1,hB.rd.1⟩
  have HSA:Hid (isgn (M.int m an) 0=-1):=hz
  have HSB:Hid (isgn (M.int n bn) 0=-1):=hz'
  obtain⟨rfl,la,ra⟩:=neg_len hA.ra ((isgn_is _).1 hz)
  obtain⟨rfl,lb,rb⟩:=neg_len hB.ra ((isgn_is _).1 hz')
  have HNN:Hid (R false an/\R false bn):=⟨ra,rb⟩
  have ea:=ha.len
  have eb:=hb.len
  have hk1:(!true&&decide (0<k1))=false:=by simp
  have HT2:Hid (isgn ((M.val bn*M.val ad:Nat):Int) ((M.val an*M.val bd:Nat):Int)=T):=by show _=_;rw[<-HT.out];exact cross_neg ((isgn_is _).1 hz) ((isgn_is _).1 hz')
  clear hz hz' ra rb la lb ea eb hk1
  clear ha had hb hbd hA hB
  have K3:∀x y t,Kept w (((w.alloc x).alloc y).alloc t):=fun x y t=>(((Kept.refl w).alloc x).alloc y).alloc t
  go_enter Tryz.func203,Tryz.ntmps203
  go_wp2_with fail
  refine(refusal_any _ (w.heap.size+1+1) 0 2 2 _ _ _ _ _ _ _ _ _ _ _ (fun _=>rfl) (by omega) (RatAll.two (m:=true) (n:=false) (p:=true) (q:=false) (a1:=a1) (a2:=a2) (b1:=b1) (b2:=b2) (k1:=k1) (c1:=c1) (k2:=k2) (c2:=c2) (k3:=k3) (c3:=c3) (k4:=k4) (c4:=c4) (by rw[World.cell?_alloc_at _ _ _ _ (by simp)];rfl) (by rw[World.cell?_alloc_at _ _ _ _ (by simp)];rfl) (by rw[World.cell?_alloc_at _ _ _ _ (by simp)];rfl) (by rw[World.cell?_alloc_at _ _ _ _ (by simp)];rfl) (by rw[World.cell?_alloc_at _ _ _ _ (by simp)];rfl) (by rw[World.cell?_alloc_at _ _ _ _ (by simp)];rfl) (by rw[World.cell?_alloc_at _ _ _ _ (by simp)];rfl) (by rw[World.cell?_alloc_at _ _ _ _ (by simp)];rfl) (HA.out.1.kept (K3 _ _ _)) (HA.out.2.1.kept (K3 _ _ _)) (HA.out.2.2.1.kept (K3 _ _ _)) (HA.out.2.2.2.kept (K3 _ _ _)) (by have:=HL.out;omega) (by have:=HL.out;omega) (by have:=HL.out;omega) (by have:=HL.out;omega))).mono ?_
  rintro e w1 ⟨hk,c,rfl,hc⟩
  obtain rfl:c=0:=Refused.two HR.out.1 HR.out.2 hc
  clear hc
  have rA:=(RRow.alloc w (.bool true) (.slice a1 k1 c1) (.bool false) (.slice a2 k2 c2))
  have rB:=(RRow.alloc (w.alloc (.cells #[.bool true,.slice a1 k1 c1,.bool false,.slice a2 k2 c2] 213)) (.bool true) (.slice b1 k3 c3) (.bool false) (.slice b2 k4 c4))
  have rA:=rA.kept ((((Kept.refl _).alloc _).alloc _).trans hk)
  have rB:=rB.kept (((Kept.refl _).alloc _).trans hk)
  simp only[World.size_alloc]at rB
  have HK:=hid' ((K3 _ _ _).trans hk)
  have Hr:=hid' rA
  have Hs:=hid' rB
  clear hk K3 rA rB
  have f0:=Hr.out.c0
  have f1:=Hr.out.c1
  go_wp2_with fail
  refine(sign_any true a1 k1 c1 an _ (HA.out.1.kept HK.out) HR.out.1.ra).mono ?_
  rw[HSA.out]
  rintro e w2 ⟨rfl,hk⟩
  have Hr:=hid' (Hr.out.kept hk)
  have Hs:=hid' (Hs.out.kept hk)
  have HK:=hid' (HK.out.trans hk)
  clear hk f0 f1
  have f0:=Hs.out.c0
  have f1:=Hs.out.c1
  go_wp2_with fail
  refine(sign_any true b1 k3 c3 bn _ (HA.out.2.2.1.kept HK.out) HR.out.2.ra).mono ?_
  rw[HSB.out]
  rintro e w3 ⟨rfl,hk⟩
  have Hr:=hid' (Hr.out.kept hk)
  have Hs:=hid' (Hs.out.kept hk)
  have HK:=hid' (HK.out.trans hk)
  clear hk f0 f1
  have HV:Hid (∀V,Kept w3 V->RRow V w.heap.size (.bool true) (.slice a1 k1 c1) (.bool false) (.slice a2 k2 c2)/\RRow V (w.heap.size+1) (.bool true) (.slice b1 k3 c3) (.bool false) (.slice b2 k4 c4)):=fun V hV=>⟨Hr.out.kept hV,Hs.out.kept hV⟩
  have f0:=Hr.out.c0
  have f1:=Hr.out.c1
  have f2:=Hr.out.c2
  have f3:=Hr.out.c3
  have f4:=Hs.out.c0
  have f5:=Hs.out.c1
  have f6:=Hs.out.c2
  have f7:=Hs.out.c3
  go_wp2_with fail
  go_region_held3 (fun w'=>w'.cell? ⟨w.heap.size,0,none⟩=some (.bool true)/\w'.cell? ⟨w.heap.size,1,none⟩=some (.slice a1 k1 c1)/\w'.cell? ⟨w.heap.size,2,none⟩=some (.bool false)/\w'.cell? ⟨w.heap.size,3,none⟩=some (.slice a2 k2 c2)/\w'.cell? ⟨w.heap.size+1,0,none⟩=some (.bool true)/\w'.cell? ⟨w.heap.size+1,1,none⟩=some (.slice b1 k3 c3)/\w'.cell? ⟨w.heap.size+1,2,none⟩=some (.bool false)/\w'.cell? ⟨w.heap.size+1,3,none⟩=some (.slice b2 k4 c4)) (go_keep) (first
    |(go_at_call_of 227 (Value.slice b1 k3 c3);refine(opposite_r true false b1 b2 k3 c3 k4 c4 _).mono ?_;rw[show (!true&&decide (0<k3))=false by simp];rintro e w4 ⟨rfl,hk4⟩;have K4:=(Kept.refl w3).drew.trans hk4;have d0:=(HV.out _ K4).1.c0;have d1:=(HV.out _ K4).1.c1;have d2:=(HV.out _ K4).1.c2;have d3:=(HV.out _ K4).1.c3;have d4:=(HV.out _ K4).2.c0;have d5:=(HV.out _ K4).2.c1;have d6:=(HV.out _ K4).2.c2;have d7:=(HV.out _ K4).2.c3)
    |(go_at_call_of 227 (Value.slice a1 k1 c1);refine(opposite_r true false a1 a2 k1 c1 k2 c2 _).mono ?_;rw[show (!true&&decide (0<k1))=false by simp];rintro e w5 ⟨rfl,hk5⟩;have K5:=K4.trans hk5;have g0:=(HV.out _ K5).1.c0;have g1:=(HV.out _ K5).1.c1;have g2:=(HV.out _ K5).1.c2;have g3:=(HV.out _ K5).1.c3;have g4:=(HV.out _ K5).2.c0;have g5:=(HV.out _ K5).2.c1;have g6:=(HV.out _ K5).2.c2;have g7:=(HV.out _ K5).2.c3)
    | (go_at_call 226;refine(compare_r b1 b2 a1 a2 k3 c3 k4 c4 k1 c1 k2 c2 bn bd an ad _ (HA.out.2.2.1.kept (HK.out.trans K5)) (HA.out.2.2.2.kept (HK.out.trans K5)) (HA.out.1.kept (HK.out.trans K5)) (HA.out.2.1.kept (HK.out.trans K5)) HNN.out.2 HR.out.2.rd HNN.out.1 HR.out.1.rd HR.out.2.vpos HR.out.1.vpos).mono ?_;rw[HT2.out];rintro e w6 ⟨rfl,hk6⟩;have K6:=K5.trans hk6;have j0:=(HV.out _ K6).1.c0;have j1:=(HV.out _ K6).1.c1;have j2:=(HV.out _ K6).1.c2;have j3:=(HV.out _ K6).1.c3;have j4:=(HV.out _ K6).2.c0;have j5:=(HV.out _ K6).2.c1;have j6:=(HV.out _ K6).2.c2;have j7:=(HV.out _ K6).2.c3))
  have HK:=hid' (HK.out.trans K6)
  clear f0 f1 f2 f3 f4 f5 f6 f7 d0 d1 d2 d3 d4 d5 d6 d7 g0 g1 g2 g3 g4 g5 g6 g7 j0 j1 j2 j3 j4 j5 j6 j7 hk4 hk5 hk6 K4 K5 K6
  go_wp2
  refine bodyPost_ret (v:=.tuple #[.int .i64 T,.int .i64 0]) (by simp[results,Tryz.results203,go_sem]) rfl ⟨rfl,HK.out⟩
theorem Cmp_ok (m nA n nB:Bool)(a1 a2 b1 b2:Option Addr)(k1 c1 k2 c2 k3 c3 k4 c4:Nat)(an ad bn bd:List Nat)(w:World)(ha:Sl w (.slice a1 k1 c1) an)(had:Sl w (.slice a2 k2 c2) ad)(hb:Sl w (.slice b1 k3 c3) bn)(hbd:Sl w (.slice b2 k4 c4) bd)(hA:RatR m nA an ad)(hB:RatR n nB bn bd) :
    Calls Tryz.prog 203 #[.agg #[.bool m,.slice a1 k1 c1,.bool nA,.slice a2 k2 c2],.agg #[.bool n,.slice b1 k3 c3,.bool nB,.slice b2 k4 c4]] w fun e w'=>e=.returned (.tuple #[.int .i64 (isgn (M.int m an*M.val bd) (M.int n bn*M.val ad)),.int .i64 0])/\Kept w w':=by
  by_cases h:isgn (M.int m an) 0=isgn (M.int n bn) 0
  · rcases sgn_three' (M.int m an) with h1|h1|h1
    · exact Cmp_neg m nA n nB a1 a2 b1 b2 k1 c1 k2 c2 k3 c3 k4 c4 an ad bn bd w ha had hb hbd hA hB h1 (h ▸ h1)
    · exact Cmp_zero m nA n nB a1 a2 b1 b2 k1 c1 k2 c2 k3 c3 k4 c4 an ad bn bd w ha had hb hbd hA hB h1 (h ▸ h1)
    · exact Cmp_pos m nA n nB a1 a2 b1 b2 k1 c1 k2 c2 k3 c3 k4 c4 an ad bn bd w ha had hb hbd hA hB h1 (h ▸ h1)
  · exact Cmp_diff m nA n nB a1 a2 b1 b2 k1 c1 k2 c2 k3 c3 k4 c4 an ad bn bd w ha had hb hbd hA hB h
end F
end Go.Proofs.YtdjhmgmjiglcbaaGreatDoor
