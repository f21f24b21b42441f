/- Lemmas. -/
import Derived.Test.YtdjhmgmjiglcbaaGreatDoorGan
import Derived.Deep.DeepCutAuto
import Derived.Deep.RegionHeld3
import Derived.Test.YtdjhmgmjiglcbaaGreatDoorGab
import Derived.Test.YtdjhmgmjiglcbaaGreatDoorGaj
import Derived.Test.YtdjhmgmjiglcbaaGreatDoorGac
import Derived.Deep.Slices
import Derived.Deep.Strs
import Derived.SizedLaws
set_option maxRecDepth 100000
set_option maxHeartbeats 4000000
namespace Go.Proofs.YtdjhmgmjiglcbaaGreatDoor
open Go.RowKit
namespace F
def ZBox (w:World)(p:Nat):Prop:=w.rowIs p 211 2 (fun i=>if i=0 then .bool false else .slice none 0 0)
theorem ZBox.alloc (w:World):ZBox (w.alloc (.cells #[.bool false,.slice none 0 0] 211)) w.heap.size :=
 World.rowIs_alloc w #[.bool false,.slice none 0 0] 211 _ (fun i hi=>by
  match i,hi with
  |0,_=>rfl
  |1,_=>rfl)
theorem ZBox.lt {w:World}{p:Nat}(h:ZBox w p):p<w.heap.size:=World.rowIs.lt h
theorem ZBox.c0 {w:World}{p:Nat}(h:ZBox w p):w.cell? ⟨p,0,none⟩=some (.bool false):=World.rowIs.cell h (i:=0) (by omega)
theorem ZBox.c1 {w:World}{p:Nat}(h:ZBox w p):w.cell? ⟨p,1,none⟩=some (.slice none 0 0):=World.rowIs.cell h (i:=1) (by omega)
theorem ZBox.fz {w:World}{p:Nat}(h:ZBox w p)(o:Nat):w.frozen? ⟨p,o,none⟩=false:=World.rowIs.frozen h o
theorem ZBox.keptK {kb p:Nat}{w w':World}(h:ZBox w p)(hne:p≠kb)(k:KeptK kb w w'):ZBox w' p:=World.rowIs.of_block h (k.block p h.lt hne)
theorem ZBox.kept {p:Nat}{w w':World}(h:ZBox w p)(k:Kept w w'):ZBox w' p:=World.rowIs.of_block h (k.block p h.lt)
theorem ZBox.far {w:World}{p q:Nat}(h:ZBox w p)(hne:p≠q)(x y:Value):ZBox ((w.setCell ⟨q,0,none⟩ x).setCell ⟨q,1,none⟩ y) p :=
 World.rowIs.setOther (World.rowIs.setOther h hne x) hne y
theorem KeptK.set2 {kb p:Nat}{a b:World}(h:KeptK kb a b)(hp:a.heap.size<=p)(x y:Value):KeptK kb a ((b.setCell ⟨p,0,none⟩ x).setCell ⟨p,1,none⟩ y):=(h.setNew hp x).setNew hp y
theorem Flag.set2 {w:World}{kb p:Nat}{x:Bool}(h:Flag w kb x)(hp:p≠kb)(u v:Value):Flag ((w.setCell ⟨p,0,Option.none⟩ u).setCell ⟨p,1,Option.none⟩ v) kb x :=
 (h.other (fun e=>hp e.symm) u).other (fun e=>hp e.symm) v
theorem New.box2 {B p:Nat}{w:World}{v:Value}{l:List Nat}(h:New B w v l)(hz:ZBox w p)(x y:Value):New B ((w.setCell ⟨p,0,none⟩ x).setCell ⟨p,1,none⟩ y) v l:=by
 obtain⟨hb,⟨rfl,rfl⟩|⟨b,N,f,rfl,hB,hN,hr,hf⟩⟩:=h
 ·exact⟨hb,.inl ⟨rfl,rfl⟩⟩
 ·have hne:b≠p:=by
   intro e
   subst e
   obtain⟨c,h1,_,_⟩:=hr
   obtain⟨c',h2,_,_⟩:=hz
   rw[h1]at h2
   simp at h2
  exact⟨hb,.inr ⟨b,N,f,rfl,hB,hN,World.rowIs.setOther (World.rowIs.setOther hr hne x) hne y,hf⟩⟩
def Box (kb:Nat)(W:World)(p:Nat)(s:Bool)(ao:Option Addr)(k c:Nat)(l:List Nat):Prop :=
 ∀V,KeptK kb W V->(V.cell? ⟨p,0,none⟩=some (.bool s)/\V.cell? ⟨p,1,none⟩=some (.slice ao k c))/\Sl V (.slice ao k c) l
section
variable {kb p k c:Nat} {W V:World} {s x:Bool} {ao:Option Addr} {l:List Nat}
theorem Box.mv {W':World}(h:Box kb W p s ao k c l)(hk:KeptK kb W W'):Box kb W' p s ao k c l:=fun V hV=>h V (hk.trans hV)
theorem Box.c0 (h:Box kb W p s ao k c l)(hk:KeptK kb W V):V.cell? ⟨p,0,none⟩=some (.bool s):=(h V hk).1.1
theorem Box.c1 (h:Box kb W p s ao k c l)(hk:KeptK kb W V):V.cell? ⟨p,1,none⟩=some (.slice ao k c):=(h V hk).1.2
theorem Box.sl (h:Box kb W p s ao k c l)(hk:KeptK kb W V):Sl V (.slice ao k c) l:=(h V hk).2
theorem Box.mk (hF:Flag W kb x)(hne:p≠kb)(h0:W.cell? ⟨p,0,none⟩=some (.bool s))(h1:W.cell? ⟨p,1,none⟩=some (.slice ao k c))(hs:Sl W (.slice ao k c) l):Box kb W p s ao k c l :=
 fun _ hV=>⟨⟨cell_keptK hV hne h0,cell_keptK hV hne h1⟩,Sl.keptK hF hs hV⟩
end
def RBox (kb:Nat)(W:World)(p:Nat)(m:Bool)(ao:Option Addr)(k c:Nat)(n:Bool)(ap:Option Addr)(k' c':Nat)(a d:List Nat):Prop :=
 ∀V,KeptK kb W V->(V.cell? ⟨p,0,none⟩=some (.bool m)/\V.cell? ⟨p,1,none⟩=some (.slice ao k c)/\V.cell? ⟨p,2,none⟩=some (.bool n)/\V.cell? ⟨p,3,none⟩=some (.slice ap k' c'))/\Sl V (.slice ao k c) a/\Sl V (.slice ap k' c') d
section
variable {kb p k c k' c':Nat} {W V:World} {m n x:Bool} {ao ap:Option Addr} {a d:List Nat}
theorem RBox.mv {W':World}(h:RBox kb W p m ao k c n ap k' c' a d)(hk:KeptK kb W W'):RBox kb W' p m ao k c n ap k' c' a d:=fun V hV=>h V (hk.trans hV)
theorem RBox.c0 (h:RBox kb W p m ao k c n ap k' c' a d)(hk:KeptK kb W V):V.cell? ⟨p,0,none⟩=some (.bool m):=(h V hk).1.1
theorem RBox.c1 (h:RBox kb W p m ao k c n ap k' c' a d)(hk:KeptK kb W V):V.cell? ⟨p,1,none⟩=some (.slice ao k c):=(h V hk).1.2.1
theorem RBox.c2 (h:RBox kb W p m ao k c n ap k' c' a d)(hk:KeptK kb W V):V.cell? ⟨p,2,none⟩=some (.bool n):=(h V hk).1.2.2.1
theorem RBox.c3 (h:RBox kb W p m ao k c n ap k' c' a d)(hk:KeptK kb W V):V.cell? ⟨p,3,none⟩=some (.slice ap k' c'):=(h V hk).1.2.2.2
theorem RBox.mk (hF:Flag W kb x)(hne:p≠kb)(h0:W.cell? ⟨p,0,none⟩=some (.bool m))(h1:W.cell? ⟨p,1,none⟩=some (.slice ao k c))(h2:W.cell? ⟨p,2,none⟩=some (.bool n))(h3:W.cell? ⟨p,3,none⟩=some (.slice ap k' c'))(ha:Sl W (.slice ao k c) a)(hd:Sl W (.slice ap k' c') d):RBox kb W p m ao k c n ap k' c' a d :=
 fun _ hV=>⟨⟨cell_keptK hV hne h0,cell_keptK hV hne h1,cell_keptK hV hne h2,cell_keptK hV hne h3⟩,Sl.keptK hF ha hV,Sl.keptK hF hd hV⟩
end
end F
namespace Q
theorem hid' {p:Prop}(h:p):Hid p:=h
def Row2 (t:TypeId)(w:World)(p:Nat)(x0 x1:Value):Prop:=w.rowIs p t 2 (fun i=>if i=0 then x0 else x1)
theorem Row2.alloc (t:TypeId)(w:World)(x0 x1:Value):Row2 t (w.alloc (.cells #[x0,x1] t)) w.heap.size x0 x1 :=
 World.rowIs_alloc w #[x0,x1] t _ (fun i hi=>by
  match i,hi with
  |0,_=>rfl
  |1,_=>rfl)
section
variable {t:TypeId} {w w':World} {p q:Nat} {x0 x1:Value}
theorem Row2.lt (h:Row2 t w p x0 x1):p<w.heap.size:=World.rowIs.lt h
theorem Row2.c0 (h:Row2 t w p x0 x1):w.cell? ⟨p,0,none⟩=some x0:=World.rowIs.cell h (i:=0) (by omega)
theorem Row2.c1 (h:Row2 t w p x0 x1):w.cell? ⟨p,1,none⟩=some x1:=World.rowIs.cell h (i:=1) (by omega)
theorem Row2.fz (h:Row2 t w p x0 x1)(o:Nat):w.frozen? ⟨p,o,none⟩=false:=World.rowIs.frozen h o
theorem Row2.kept (h:Row2 t w p x0 x1)(k:Kept w w'):Row2 t w' p x0 x1:=World.rowIs.of_block h (k.block p h.lt)
theorem Row2.all (h:Row2 t w p x0 x1):w.cell? ⟨p,0,none⟩=some x0/\w.cell? ⟨p,1,none⟩=some x1/\w.frozen? ⟨p,0,none⟩=false/\w.frozen? ⟨p,1,none⟩=false:=⟨h.c0,h.c1,h.fz 0,h.fz 1⟩
theorem Row2.set2 (h:Row2 t w p x0 x1)(y0 y1:Value):Row2 t ((w.setCell ⟨p,0,none⟩ y0).setCell ⟨p,1,none⟩ y1) p y0 y1 :=
 ((World.rowIs.set (World.rowIs.set h 0 y0) 1 y1).congr fun i hi=>by
  match i,hi with
  |0,_=>rfl
  |1,_=>rfl)
theorem Row2.far (h:Row2 t w p x0 x1)(hne:¬p=q)(x y:Value):Row2 t ((w.setCell ⟨q,0,none⟩ x).setCell ⟨q,1,none⟩ y) p x0 x1 :=
 World.rowIs.setOther (World.rowIs.setOther h hne x) hne y
end
def Row3 (t:TypeId)(w:World)(p:Nat)(x0 x1 x2:Value):Prop:=w.rowIs p t 3 (fun i=>if i=0 then x0 else if i=1 then x1 else x2)
theorem Row3.alloc (t:TypeId)(w:World)(x0 x1 x2:Value):Row3 t (w.alloc (.cells #[x0,x1,x2] t)) w.heap.size x0 x1 x2 :=
 World.rowIs_alloc w #[x0,x1,x2] t _ (fun i hi=>by
  match i,hi with
  |0,_=>rfl
  |1,_=>rfl
  |2,_=>rfl)
section
variable {t:TypeId} {w w':World} {p q:Nat} {x0 x1 x2:Value}
theorem Row3.lt (h:Row3 t w p x0 x1 x2):p<w.heap.size:=World.rowIs.lt h
theorem Row3.c0 (h:Row3 t w p x0 x1 x2):w.cell? ⟨p,0,none⟩=some x0:=World.rowIs.cell h (i:=0) (by omega)
theorem Row3.c1 (h:Row3 t w p x0 x1 x2):w.cell? ⟨p,1,none⟩=some x1:=World.rowIs.cell h (i:=1) (by omega)
theorem Row3.c2 (h:Row3 t w p x0 x1 x2):w.cell? ⟨p,2,none⟩=some x2:=World.rowIs.cell h (i:=2) (by omega)
theorem Row3.fz (h:Row3 t w p x0 x1 x2)(o:Nat):w.frozen? ⟨p,o,none⟩=false:=World.rowIs.frozen h o
theorem Row3.kept (h:Row3 t w p x0 x1 x2)(k:Kept w w'):Row3 t w' p x0 x1 x2:=World.rowIs.of_block h (k.block p h.lt)
end
theorem Kept.put2 {a b:World}{p:Nat}(h:Kept a b)(hp:a.heap.size<=p)(x0 x1:Value):Kept a ((b.setCell ⟨p,0,none⟩ x0).setCell ⟨p,1,none⟩ x1):=(h.setCell hp x0).setCell hp x1
theorem Kept.put3 {a b:World}{p:Nat}(h:Kept a b)(hp:a.heap.size<=p)(x0 x1 x2:Value):Kept a (((b.setCell ⟨p,0,none⟩ x0).setCell ⟨p,1,none⟩ x1).setCell ⟨p,2,none⟩ x2):=((h.setCell hp x0).setCell hp x1).setCell hp x2
end Q
namespace F
def RRow (w:World)(p:Nat)(x0 x1 x2 x3:Value):Prop:=w.rowIs p 213 4 (fun i=>if i=0 then x0 else if i=1 then x1 else if i=2 then x2 else x3)
theorem RRow.alloc (w:World)(x0 x1 x2 x3:Value):RRow (w.alloc (.cells #[x0,x1,x2,x3] 213)) w.heap.size x0 x1 x2 x3 :=
 World.rowIs_alloc w #[x0,x1,x2,x3] 213 _ (fun i hi=>by
  match i,hi with
  |0,_=>rfl
  |1,_=>rfl
  |2,_=>rfl
  |3,_=>rfl)
section
variable {w w':World} {p:Nat} {x0 x1 x2 x3:Value}
theorem RRow.lt (h:RRow w p x0 x1 x2 x3):p<w.heap.size:=World.rowIs.lt h
theorem RRow.c0 (h:RRow w p x0 x1 x2 x3):w.cell? ⟨p,0,none⟩=some x0:=World.rowIs.cell h (i:=0) (by omega)
theorem RRow.c1 (h:RRow w p x0 x1 x2 x3):w.cell? ⟨p,1,none⟩=some x1:=World.rowIs.cell h (i:=1) (by omega)
theorem RRow.c2 (h:RRow w p x0 x1 x2 x3):w.cell? ⟨p,2,none⟩=some x2:=World.rowIs.cell h (i:=2) (by omega)
theorem RRow.c3 (h:RRow w p x0 x1 x2 x3):w.cell? ⟨p,3,none⟩=some x3:=World.rowIs.cell h (i:=3) (by omega)
theorem RRow.fz (h:RRow w p x0 x1 x2 x3)(o:Nat):w.frozen? ⟨p,o,none⟩=false:=World.rowIs.frozen h o
theorem RRow.kept (h:RRow w p x0 x1 x2 x3)(k:Kept w w'):RRow w' p x0 x1 x2 x3:=World.rowIs.of_block h (k.block p h.lt)
theorem RRow.keptK {kb:Nat}(h:RRow w p x0 x1 x2 x3)(hne:p≠kb)(k:KeptK kb w w'):RRow w' p x0 x1 x2 x3:=World.rowIs.of_block h (k.block p h.lt hne)
end
theorem Flag.alloc (w:World)(x:Bool):Flag (w.alloc (.cells #[.bool x] 289)) w.heap.size x :=
 World.rowIs_alloc w #[.bool x] 289 _ (fun i hi=>by
  match i,hi with
  |0,_=>rfl)
theorem pos_false {s:Bool}{l:List Nat}(h:M.Right s l)(hp:0<M.int s l):s=false:=by
 cases s
 ·rfl
 ·have:=int_neg_lt (R.of_right h);omega
theorem len_pos {s:Bool}{l:List Nat}(hp:0<M.int s l):0<l.length:=by
 apply Classical.byContradiction
 intro h
 have:l=[]:=List.length_eq_zero_iff.1 (by omega)
 subst this
 cases s <;> simp[M.int,M.val]at hp
theorem answer_q (kb:Nat)(x s t:Bool)(ao ap:Option Addr)(k c k' c':Nat)(w:World)(hF:Flag w kb x) :
  Calls Tryz.prog 267 #[.pointer (some ⟨kb,0,none⟩),.agg #[.bool s,.slice ao k c],.agg #[.bool t,.slice ap k' c']] w fun e w'=>Kept w w'/\∃(y0 y2:Bool) (z1 z3:Option Addr) (j1 e1 j3 e3:Nat) (er:Int),e=.returned (.tuple #[.agg #[.bool y0,.slice z1 j1 e1,.bool y2,.slice z3 j3 e3],.int .i64 er])/\((x=false/\er=0/\y0=s/\z1=ao/\j1=k/\e1=c/\y2=t/\z3=ap/\j3=k'/\e3=c')∨(x=true/\er=13/\y0=false/\z1=none/\j1=0/\e1=0/\y2=false/\z3=none/\j3=0/\e3=0)):=by
 refine(answer_r kb x s t ao ap k c k' c' w hF).mono ?_
 rintro e w' ⟨h1,rfl⟩
 cases x
 ·exact⟨h1,s,t,ao,ap,k,c,k',c',0,rfl,.inl ⟨rfl,rfl,rfl,rfl,rfl,rfl,rfl,rfl,rfl,rfl⟩⟩
 ·exact⟨h1,false,false,none,none,0,0,0,0,13,rfl,.inr ⟨rfl,rfl,rfl,rfl,rfl,rfl,rfl,rfl,rfl,rfl⟩⟩
theorem hidp {p:Prop}(h:p):Hid p:=h
theorem reduced_r (m n:Bool)(aoa aob:Option Addr)(ka ca kb cb:Nat)(a b:List Nat)(w:World)(ha:Sl w (.slice aoa ka ca) a)(hb:Sl w (.slice aob kb cb) b)(hra:R m a)(hrb:R n b)(hg0:0<Nat.gcd (M.val a) (M.val b)) :
  Calls Tryz.prog 266 #[.agg #[.bool m,.slice aoa ka ca],.agg #[.bool n,.slice aob kb cb]] w fun e w'=>Kept w w'/\∃s ao k c l t ap k' c' l',e=.returned (.tuple #[.agg #[.bool s,.slice ao k c],.agg #[.bool t,.slice ap k' c']])/\New w.heap.size w' (.slice ao k c) l/\New w.heap.size w' (.slice ap k' c') l'/\M.Right s l/\M.Right t l'/\M.int s l*(Nat.gcd (M.val a) (M.val b):Nat)=M.int m a/\M.int t l'*(Nat.gcd (M.val a) (M.val b):Nat)=M.int n b:=by
 obtain⟨g,HG⟩:∃g,Hid (Nat.gcd (M.val a) (M.val b)=g):=⟨_,rfl⟩
 rw[HG.out]at hg0 ⊢
 have HR:Hid (R m a/\R n b/\0<g):=⟨hra,hrb,hg0⟩
 have HA:Hid (Sl w (.slice aoa ka ca) a/\Sl w (.slice aob kb cb) b):=⟨ha,hb⟩
 obtain⟨x,HX⟩:∃x:Int,Hid (x*(g:Int)=M.int m a):=by
  have h:(g:Int) ∣ M.int m a:=by apply Int.natAbs_dvd_natAbs.1;rw[M.natAbs_int,Int.natAbs_natCast,<-HG.out];exact Nat.gcd_dvd_left _ _
  obtain⟨z,hz⟩:=h
  exact⟨z,by show _=_;rw[hz,Int.mul_comm]⟩
 obtain⟨y,HY⟩:∃y:Int,Hid (y*(g:Int)=M.int n b):=by
  have h:(g:Int) ∣ M.int n b:=by apply Int.natAbs_dvd_natAbs.1;rw[M.natAbs_int,Int.natAbs_natCast,<-HG.out];exact Nat.gcd_dvd_right _ _
  obtain⟨z,hz⟩:=h
  exact⟨z,by show _=_;rw[hz,Int.mul_comm]⟩
 clear ha hb hra hrb hg0
 have K4:∀x y t u,Kept w ((((w.alloc x).alloc y).alloc t).alloc u):=fun x y t u=>((((Kept.refl w).alloc x).alloc y).alloc t).alloc u
 go_enter Tryz.func266,Tryz.ntmps266
 go_wp2_with fail
 refine(gcd_r m n (.slice aoa ka ca) (.slice aob kb cb) a b _ (HA.out.1.kept (K4 _ _ _ _)) (HA.out.2.kept (K4 _ _ _ _)) HR.out.1 HR.out.2.1).mono ?_
 rw[HG.out]
 rintro e w1 ⟨hk,sg,ag,kg,cg,lg,rfl,ng,rg,vg⟩
 obtain rfl:sg=false:=pos_false rg (by rw[vg];have:=HR.out.2.2;omega)
 have HQ:Hid (M.Right false lg/\M.int false lg=(g:Int)/\0<lg.length):=⟨rg,vg,len_pos (s:=false) (by rw[vg];have:=HR.out.2.2;omega)⟩
 obtain⟨ha0,ha1,hb0,hb1⟩:=box_kept2 ((((Kept.refl _).alloc _).alloc _).trans hk)
 have Z4:ZBox w1 (w.heap.size+1+1):=by
  have h:=((ZBox.alloc ((w.alloc (.cells #[.bool m,.slice aoa ka ca] 211)).alloc (.cells #[.bool n,.slice aob kb cb] 211))).kept ((Kept.refl _).alloc _)).kept hk
  simp only[World.size_alloc]at h
  exact h
 have Z5:ZBox w1 (w.heap.size+1+1+1):=by
  have h:=(ZBox.alloc (((w.alloc (.cells #[.bool m,.slice aoa ka ca] 211)).alloc (.cells #[.bool n,.slice aob kb cb] 211)).alloc (.cells #[.bool false,.slice none 0 0] 211))).kept hk
  simp only[World.size_alloc]at h
  exact h
 have hKw:=(K4 _ _ _ _).trans hk
 have HC:Hid ((w1.cell? ⟨w.heap.size,0,none⟩=some (.bool m)/\w1.cell? ⟨w.heap.size,1,none⟩=some (.slice aoa ka ca))/\(w1.cell? ⟨w.heap.size+1,0,none⟩=some (.bool n)/\w1.cell? ⟨w.heap.size+1,1,none⟩=some (.slice aob kb cb))/\ZBox w1 (w.heap.size+1+1)/\ZBox w1 (w.heap.size+1+1+1)/\Kept w w1/\New w.heap.size w1 (.slice ag kg cg) lg):=⟨⟨ha0,ha1⟩,⟨hb0,hb1⟩,Z4,Z5,hKw,ng.mono (by simp;omega)⟩
 clear hk ng rg vg ha0 ha1 hb0 hb1 Z4 Z5 hKw K4
 go_upto_region 2 with fail
 have hK:Kept w1 (w1.alloc (.cells #[.bool false,.slice ag kg cg] 211)):=(Kept.refl w1).alloc _
 have hY:=box_kept (Kept.refl (w1.alloc (.cells #[.bool false,.slice ag kg cg] 211)))
 generalize w1.alloc (.cells #[.bool false,.slice ag kg cg] 211)=W at hK hY ⊢
 obtain⟨hy0,hy1⟩:=hY
 obtain⟨⟨i1,i2⟩,⟨i3,i4⟩,i5,i6,i7,i8⟩:=HC.out
 have z4:=i5.lt
 have z5:=i6.lt
 obtain⟨p6,hp6⟩:∃p,p=w1.heap.size:=⟨_,rfl⟩
 rw[<-hp6]at hy0 hy1 z4 z5 ⊢
 obtain⟨p5,hp5⟩:∃p,p=w.heap.size+1+1+1:=⟨_,rfl⟩
 rw[<-hp5]at i6 z5 ⊢
 obtain⟨p4,hp4⟩:∃p,p=w.heap.size+1+1:=⟨_,rfl⟩
 rw[<-hp4]at i5 z4 ⊢
 obtain⟨p3,hp3⟩:∃p,p=w.heap.size+1:=⟨_,rfl⟩
 rw[<-hp3]at i3 i4 ⊢
 obtain⟨p2,hp2⟩:∃p,p=w.heap.size:=⟨_,rfl⟩
 rw[<-hp2]at i1 i2 ⊢
 have n1:¬(p4=p2):=by omega
 have n2:¬(p4=p3):=by omega
 have n3:¬(p4=p6):=by omega
 have n4:¬(p5=p2):=by omega
 have n5:¬(p5=p3):=by omega
 have n6:¬(p5=p6):=by omega
 have n7:¬(p4=p5):=by omega
 have n8:¬(p5=p4):=by omega
 have HP:Hid (w.heap.size<=p4/\w.heap.size<=p5/\p4<W.heap.size/\p5<W.heap.size/\w.heap.size<=W.heap.size):=⟨by omega,by omega,(i5.kept hK).lt,(i6.kept hK).lt,(i7.trans hK).size⟩
 have HV:Hid (∀V,Kept W V->(V.cell? ⟨p2,0,none⟩=some (.bool m)/\V.cell? ⟨p2,1,none⟩=some (.slice aoa ka ca))/\(V.cell? ⟨p3,0,none⟩=some (.bool n)/\V.cell? ⟨p3,1,none⟩=some (.slice aob kb cb))/\(V.cell? ⟨p6,0,none⟩=some (.bool false)/\V.cell? ⟨p6,1,none⟩=some (.slice ag kg cg))/\ZBox V p4/\ZBox V p5/\Sl V (.slice aoa ka ca) a/\Sl V (.slice aob kb cb) b/\Sl V (.slice ag kg cg) lg):=fun V hV=>
  ⟨⟨cell_kept (hK.trans hV) i1,cell_kept (hK.trans hV) i2⟩,⟨cell_kept (hK.trans hV) i3,cell_kept (hK.trans hV) i4⟩,⟨cell_kept hV hy0,cell_kept hV hy1⟩,i5.kept (hK.trans hV),i6.kept (hK.trans hV),HA.out.1.kept ((i7.trans hK).trans hV),HA.out.2.kept ((i7.trans hK).trans hV),(i8.kept (hK.trans hV)).sl⟩
 have HKW:=hidp (i7.trans hK)
 obtain⟨⟨q0,q1⟩,⟨q2,q3⟩,⟨q4,q5⟩,_⟩:=HV.out _ (Kept.refl W)
 clear hK hy0 hy1 i1 i2 i3 i4 i5 i6 i7 i8 hp2 hp3 hp4 hp5 hp6 HC z4 z5 HA
 go_region_held3 (fun w'=>w'.cell? ⟨p2,0,none⟩=some (.bool m)/\w'.cell? ⟨p2,1,none⟩=some (.slice aoa ka ca)/\w'.cell? ⟨p3,0,none⟩=some (.bool n)/\w'.cell? ⟨p3,1,none⟩=some (.slice aob kb cb)/\w'.cell? ⟨p6,0,none⟩=some (.bool false)/\w'.cell? ⟨p6,1,none⟩=some (.slice ag kg cg)) (go_keep) (first
  |(go_at_call_of 285 (Value.slice aoa ka ca);refine(exact_r m false (.slice aoa ka ca) (.slice ag kg cg) a lg x _ (HV.out _ (Kept.refl _).drew).2.2.2.2.2.1 (HV.out _ (Kept.refl _).drew).2.2.2.2.2.2.2 HR.out.1 (R.of_right HQ.out.1) HQ.out.2.2 (by rw[HQ.out.2.1];exact HX.out)).mono ?_;rintro e w3 ⟨hk3,s3,a3,k3,c3,l3,rfl,n3',r3,v3⟩;have K3:=(Kept.refl W).drew.trans hk3;obtain⟨⟨d0,d1⟩,⟨d2,d3⟩,⟨d4,d5⟩,_⟩:=HV.out _ K3;have H3:=hidp (And.intro n3' (And.intro r3 v3));clear n3' r3 v3)
  |(go_at_call_of 285 (Value.slice aob kb cb);refine(exact_r n false (.slice aob kb cb) (.slice ag kg cg) b lg y _ (HV.out _ K3).2.2.2.2.2.2.1 (HV.out _ K3).2.2.2.2.2.2.2 HR.out.2.1 (R.of_right HQ.out.1) HQ.out.2.2 (by rw[HQ.out.2.1];exact HY.out)).mono ?_;rintro e w4 ⟨hk4,s4,a4,k4,c4,l4,rfl,n4',r4,v4⟩;have K4:=K3.trans hk4;obtain⟨⟨g0,g1⟩,⟨g2,g3⟩,⟨g4,g5⟩,zz4,zz5,_⟩:=HV.out _ K4;have H4:=hidp (And.intro n4' (And.intro r4 (And.intro v4 (H3.out.1.kept hk4))));have HZ3:=hidp K3.size;clear n4' r4 v4;have e0:=zz4.c0;have e1:=zz4.c1;have e2:=zz4.fz 0;have e3:=zz4.fz 1;have e4:=zz5.c0;have e5:=zz5.c1;have e6:=zz5.fz 0;have e7:=zz5.fz 1))
 have HK4:=hidp (HKW.out.trans K4)
 have HZ:=hidp (And.intro zz4 zz5)
 have HZW:=hidp ((Kept.refl W).drew).size
 clear q0 q1 q2 q3 q4 q5 d0 d1 d2 d3 d4 d5 g0 g1 g2 g3 g4 g5 hk3 hk4 K3 K4 HV zz4 zz5
 go_wp2
 obtain⟨b1,b2,b3,b4,b5⟩:=HP.out
 have hz3:=HZ3.out
 have hzw:=HZW.out
 refine bodyPost_ret (v:=.tuple #[.agg #[.bool s3,.slice a3 k3 c3],.agg #[.bool s4,.slice a4 k4 c4]]) (by simp[results,Tryz.results266,go_sem,e0,e1,e4,e5]) rfl ⟨?_,s3,a3,k3,c3,l3,s4,a4,k4,c4,l4,rfl,?_,?_,H3.out.2.1,H4.out.2.1,?_,?_⟩
 ·exact(((HK4.out.setCell b1 _).setCell b1 _).setCell b2 _).setCell b2 _
 ·exact(New.box2 (New.box2 H4.out.2.2.2 HZ.out.1 _ _) (HZ.out.2.far n8 _ _) _ _).mono (by omega)
 ·exact(New.box2 (New.box2 H4.out.1 HZ.out.1 _ _) (HZ.out.2.far n8 _ _) _ _).mono (by omega)
 ·rw[H3.out.2.2];exact HX.out
 ·rw[H4.out.2.2.1];exact HY.out
def JoinQ (kb B:Nat)(x:Bool)(w:World)(e:Ending)(A P D:Int):Prop :=
 ∃x' s ao k cap l,e=.returned (.agg #[.bool s,.slice ao k cap])/\Flag w kb x'/\New B w (.slice ao k cap) l/\M.Right s l/\(x'=false->x=false/\(0<D->M.int s l=A*D+P)) /\
  (x=false->0<D->D.natAbs<M.W72->(A*D+P).natAbs<M.W72->A.natAbs<M.W72->((A<0/\0<P)∨(0<A/\P<0)->P.natAbs<D.natAbs)->(¬((A<0/\0<P)∨(0<A/\P<0))->(A*D).natAbs<M.W72)->x'=false)
def AddQ (kb B:Nat)(x:Bool)(w:World)(e:Ending)(a b:Int)(g:Nat):Prop :=
 ∃x' s ao k cap l,e=.returned (.agg #[.bool s,.slice ao k cap])/\Flag w kb x'/\New B w (.slice ao k cap) l/\M.Right s l/\(x'=false->x=false/\(g:Int) ∣ M.int s l-(a+b))/\(x=false->a.natAbs<g->b.natAbs<g->g<M.W72->x'=false)
structure RatR (m n:Bool) (a d:List Nat):Prop where
 ra:R m a
 rd:R n d
 pos:0<M.int n d
 low:Nat.gcd (M.val a) (M.val d)=1
theorem RatR.sgn {m n:Bool}{a d:List Nat}(h:RatR m n a d):n=false:=by
 cases n
 ·rfl
 ·have:=int_neg_lt h.rd;have:=h.pos;omega
theorem RatR.val {m n:Bool}{a d:List Nat}(h:RatR m n a d):M.int n d=(M.val d:Int):=by rw[h.sgn];simp[M.int]
theorem RatR.vpos {m n:Bool}{a d:List Nat}(h:RatR m n a d):0<M.val d:=by have:=h.pos;rw[h.val]at this;omega
def two {α:Type}(x y:α)(i:Nat):α:=if i=0 then x else y
theorem RatAll.two {w:World}{b:Nat}{m n p q:Bool}{a1 a2 b1 b2:Option Addr}{k1 c1 k2 c2 k3 c3 k4 c4:Nat}{an ad bn bd:List Nat}
  (h0:w.cell? ⟨b,0,none⟩=some (.bool m)) (h1:w.cell? ⟨b,1,none⟩=some (.slice a1 k1 c1)) (h2:w.cell? ⟨b,2,none⟩=some (.bool n)) (h3:w.cell? ⟨b,3,none⟩=some (.slice a2 k2 c2))
  (h4:w.cell? ⟨b,4,none⟩=some (.bool p)) (h5:w.cell? ⟨b,5,none⟩=some (.slice b1 k3 c3)) (h6:w.cell? ⟨b,6,none⟩=some (.bool q)) (h7:w.cell? ⟨b,7,none⟩=some (.slice b2 k4 c4))
  (s1:Sl w (.slice a1 k1 c1) an) (s2:Sl w (.slice a2 k2 c2) ad) (s3:Sl w (.slice b1 k3 c3) bn) (s4:Sl w (.slice b2 k4 c4) bd)
  (l1:an.length<=9223372036854775807) (l2:ad.length<=9223372036854775807) (l3:bn.length<=9223372036854775807) (l4:bd.length<=9223372036854775807) :
  RatAll w b 0 2 (F.two m p) (F.two n q) (F.two a1 b1) (F.two a2 b2) (F.two k1 k3) (F.two c1 c3) (F.two k2 k4) (F.two c2 c4) (F.two an bn) (F.two ad bd):=by
 intro i hi
 match i,hi with
 |0,_=>exact⟨⟨h0,h1,h2,h3⟩,s1,s2,l1,l2⟩
 |1,_=>exact⟨⟨h4,h5,h6,h7⟩,s3,s4,l3,l4⟩
theorem Refused.two {m n p q:Bool}{an ad bn bd:List Nat}{c:Int}(hA:RatR m n an ad)(hB:RatR p q bn bd)(h:Refused 2 (F.two m p) (F.two n q) (F.two an bn) (F.two ad bd) c):c=0:=by
 rcases h with ⟨_,i,hi,h⟩|⟨_,⟨_,i,hi,h⟩|⟨h,_⟩⟩
 ·exfalso
  match i,hi with
  |0,_=>exact h ⟨hA.ra,hA.rd⟩
  |1,_=>exact h ⟨hB.ra,hB.rd⟩
 ·exfalso
  match i,hi with
  |0,_=>exact h ⟨hA.pos,hA.low⟩
  |1,_=>exact h ⟨hB.pos,hB.low⟩
 ·exact h
end F
namespace V
open Q (hid')
def ISl (w:World)(v:Value)(l:List Int):Prop :=
 ∃(ao:Option Addr) (cap:Nat),v=.slice ao l.length cap /\
  (0<l.length->∃b off:Nat,ao=some ⟨b,off,none⟩/\b<w.heap.size/\∀j,j<l.length->w.cell? ⟨b,off+j,none⟩=some (.int .i64 (l.getD j 0)))
def NSl (w:World)(v:Value)(l:List (Int×Int)):Prop :=
 ∃(ao:Option Addr) (cap:Nat),v=.slice ao l.length cap /\
  (0<l.length->∃b off:Nat,ao=some ⟨b,off,none⟩/\b<w.heap.size/\∀j,j<l.length->w.cell? ⟨b,off+j*2,none⟩=some (.int .i64 (l.getD j (0,0)).1)/\w.cell? ⟨b,off+j*2+1,none⟩=some (.int .i64 (l.getD j (0,0)).2))
theorem ISl.kept {w w':World}{v:Value}{l:List Int}(h:ISl w v l)(k:Kept w w'):ISl w' v l:=by
 obtain⟨ao,cap,rfl,hx⟩:=h
 refine⟨ao,cap,rfl,fun h0=>?_⟩
 obtain⟨b,off,rfl,hlt,hc⟩:=hx h0
 refine⟨b,off,rfl,Nat.lt_of_lt_of_le hlt k.size,fun j hj=>?_⟩
 rw[Below.cell k (p:=⟨b,off+j,none⟩) hlt]
 exact hc j hj
theorem NSl.kept {w w':World}{v:Value}{l:List (Int×Int)}(h:NSl w v l)(k:Kept w w'):NSl w' v l:=by
 obtain⟨ao,cap,rfl,hx⟩:=h
 refine⟨ao,cap,rfl,fun h0=>?_⟩
 obtain⟨b,off,rfl,hlt,hc⟩:=hx h0
 refine⟨b,off,rfl,Nat.lt_of_lt_of_le hlt k.size,fun j hj=>?_⟩
 rw[Below.cell k (p:=⟨b,off+j*2,none⟩) hlt,Below.cell k (p:=⟨b,off+j*2+1,none⟩) hlt]
 exact hc j hj
theorem ISl.len {w:World}{ao:Option Addr}{n c:Nat}{l:List Int}(h:ISl w (.slice ao n c) l):n=l.length:=by
 obtain⟨_,_,e,_⟩:=h
 simp at e;exact e.2.1
theorem NSl.len {w:World}{ao:Option Addr}{n c:Nat}{l:List (Int×Int)}(h:NSl w (.slice ao n c) l):n=l.length:=by
 obtain⟨_,_,e,_⟩:=h
 simp at e;exact e.2.1
def IdxIs (e:Ending)(n:Nat)(p:Nat->Bool):Prop :=
 ∃i,i<=n/\(∀j,j<i->p j=false)/\(i<n->p i=true)/\e=.returned (.int .i64 (if i=n then -1 else (i:Int)))
theorem idx_hit {n i:Nat}{p:Nat->Bool}(hi:i<n)(h:∀j,j<i->p j=false)(hp:p i=true):IdxIs (.returned (.int .i64 (i:Int))) n p :=
 ⟨i,Nat.le_of_lt hi,h,fun _=>hp,by rw[if_neg (by omega)]⟩
theorem idx_miss {n:Nat}{p:Nat->Bool}(h:∀j,j<n->p j=false):IdxIs (.returned (.int .i64 (-1))) n p :=
 ⟨n,Nat.le_refl _,h,fun h=>absurd h (Nat.lt_irrefl _),by rw[if_pos rfl]⟩
theorem idx_ints (g:Nat)(lb:Array Value)(p:Int->Bool)(eg:∀args w,(callFunc g args).run Tryz.prog w=.ok (.enter g args) w)(ao:Option Addr)(n c:Nat)(l:List Int)(w:World)
  (hp:∀W x,Kept w W->Calls Tryz.prog g (#[.int .i64 x]++lb) W fun e w'=>e=.returned (.bool (p x))/\Kept w w') (h:ISl w (.slice ao n c) l) (hbig:n<=9223372036854775807) :
  Calls Tryz.prog 121 #[.slice ao n c,.func (.func g) #[] lb] w fun e w'=>Kept w w'/\IdxIs e n (fun j=>p (l.getD j 0)):=by
 have HS:=hid' h
 clear h
 go_enter Tryz.func121,Tryz.ntmps121
 go_wp2
 go_loopg [5,8] n (fun gg _ s8 wr=>∃kk:Nat,kk<=n/\n-kk<=gg/\s8=.int .i64 kk/\Aside (Kept w wr)/\Aside (∀j,j<kk->p (l.getD j 0)=false))
 case atStart=>exact⟨0,Nat.zero_le _,by omega,rfl,Kept.refl w,fun j hj=>absurd hj (Nat.not_lt_zero _)⟩
 case round=>
  obtain⟨kk,hkk,hg,rfl,BW,A⟩:=hrel
  by_cases hlt:kk<n
  ·have hltz:(kk:Int)<(n:Int):=by omega
   obtain⟨ao',cap',hv,hx⟩:=HS.out.kept BW.out
   simp only[Value.slice.injEq]at hv
   obtain⟨rfl,hn,rfl⟩:=hv
   obtain⟨b,off,rfl,hb,hc⟩:=hx (by omega)
   have c0:=hc kk (by omega)
   have hcall:=hp wr (l.getD kk 0) BW.out
   have HN:=hid' hn
   clear hx hc hp hn
   generalize hy:l.getD kk 0=y at c0 hcall
   have B:Aside (l.getD kk 0=y):=hy
   clear hy
   cases hq:p y with
   |true=>
    rw[hq]at hcall
    go_wp2_with fail
    refine hcall.mono ?_
    rintro e w' ⟨rfl,hb'⟩
    go_wp2
    go_ret
    exact⟨hb',idx_hit hlt A.out (by show p (l.getD kk 0)=true;rw[B.out];exact hq)⟩
   |false=>
    rw[hq]at hcall
    go_wp2_with fail
    refine hcall.mono ?_
    rintro e w' ⟨rfl,hb'⟩
    go_wp2
    go_roundg (n-(kk+1))
    case measure=>omega
    case rel=>
     refine⟨kk+1,by omega,by omega,by go_num,hb',(show Aside _ from fun j hj=>?_)⟩
     by_cases e:j=kk
     ·subst e
      rw[B.out];exact hq
     ·exact A.out j (by omega)
  ·have hltz:¬(kk:Int)<(n:Int):=by omega
   have:kk=n:=by omega
   subst this
   go_wp2
   go_ret
   exact⟨BW.out,idx_miss A.out⟩
theorem idx_nums (g:Nat)(lb:Array Value)(p:Int->Int->Bool)(eg:∀args w,(callFunc g args).run Tryz.prog w=.ok (.enter g args) w)(ao:Option Addr)(n c:Nat)(l:List (Int×Int))(w:World)
  (hp:∀W x y,Kept w W->Calls Tryz.prog g (#[.agg #[.int .i64 x,.int .i64 y]]++lb) W fun e w'=>e=.returned (.bool (p x y))/\Kept w w') (h:NSl w (.slice ao n c) l) (hbig:n<=9223372036854775807) :
  Calls Tryz.prog 202 #[.slice ao n c,.func (.func g) #[] lb] w fun e w'=>Kept w w'/\IdxIs e n (fun j=>p (l.getD j (0,0)).1 (l.getD j (0,0)).2):=by
 have HS:=hid' h
 clear h
 go_enter Tryz.func202,Tryz.ntmps202
 go_wp2
 go_loopg [5,8] n (fun gg _ s8 wr=>∃kk:Nat,kk<=n/\n-kk<=gg/\s8=.int .i64 kk/\Aside (Kept w wr)/\Aside (∀j,j<kk->p (l.getD j (0,0)).1 (l.getD j (0,0)).2=false))
 case atStart=>exact⟨0,Nat.zero_le _,by omega,rfl,Kept.refl w,fun j hj=>absurd hj (Nat.not_lt_zero _)⟩
 case round=>
  obtain⟨kk,hkk,hg,rfl,BW,A⟩:=hrel
  by_cases hlt:kk<n
  ·have hltz:(kk:Int)<(n:Int):=by omega
   obtain⟨ao',cap',hv,hx⟩:=HS.out.kept BW.out
   simp only[Value.slice.injEq]at hv
   obtain⟨rfl,hn,rfl⟩:=hv
   obtain⟨b,off,rfl,hb,hc⟩:=hx (by omega)
   obtain⟨c0,c1⟩:=hc kk (by omega)
   have hcall:=hp wr (l.getD kk (0,0)).1 (l.getD kk (0,0)).2 BW.out
   have HN:=hid' hn
   clear hx hc hp hn
   generalize hy:l.getD kk (0,0)=y at c0 c1 hcall
   have B:Aside (l.getD kk (0,0)=y):=hy
   clear hy
   obtain⟨y0,y1⟩:=y
   cases hq:p y0 y1 with
   |true=>
    rw[hq]at hcall
    go_wp2_with fail
    refine hcall.mono ?_
    rintro e w' ⟨rfl,hb'⟩
    go_wp2
    go_ret
    exact⟨hb',idx_hit hlt A.out (by show p (l.getD kk (0,0)).1 (l.getD kk (0,0)).2=true;rw[B.out];exact hq)⟩
   |false=>
    rw[hq]at hcall
    go_wp2_with fail
    refine hcall.mono ?_
    rintro e w' ⟨rfl,hb'⟩
    go_wp2
    go_roundg (n-(kk+1))
    case measure=>omega
    case rel=>
     refine⟨kk+1,by omega,by omega,by go_num,hb',(show Aside _ from fun j hj=>?_)⟩
     by_cases e:j=kk
     ·subst e
      rw[B.out];exact hq
     ·exact A.out j (by omega)
  ·have hltz:¬(kk:Int)<(n:Int):=by omega
   have:kk=n:=by omega
   subst this
   go_wp2
   go_ret
   exact⟨BW.out,idx_miss A.out⟩
open Q (hid')
def okS (n:Int):Bool:=decide (0<=n/\n<=1000000000)
theorem isStep_any (n:Int)(w:World):Calls Tryz.prog 196 #[.int .i64 n] w fun e w'=>w'=w/\e=.returned (.bool (okS n)):=by
 go_enter Tryz.func196,Tryz.ntmps196
 go_wp2
 all_goals
  go_ret
  refine⟨rfl,congrArg (fun b=>Ending.returned (Value.bool b)) ?_⟩
  unfold okS
  simp_all
  try omega
theorem isPoints_any (n:Int)(w:World):Calls Tryz.prog 215 #[.int .i64 n] w fun e w'=>w'=w/\e=.returned (.bool (decide (1<=n/\n<=16))):=by
 go_enter Tryz.func215,Tryz.ntmps215
 go_wp2
 all_goals
  go_ret
  refine⟨rfl,congrArg (fun b=>Ending.returned (Value.bool b)) ?_⟩
  simp_all
  try omega
def pul (m x m' x' d r b f p:Int):Value:=.agg #[.int .i64 m,.int .i64 x,.int .i64 m',.int .i64 x',.int .i64 d,.int .i64 r,.int .i64 b,.int .i64 f,.int .i64 p]
theorem fitsPeriod_any (m x m' x' d r b f p:Int)(w:World)(hr:0<=r/\r<=1000000000)(hb:0<=b/\b<=1000000000)(hp:0<=p/\p<=1000000000) :
  Calls Tryz.prog 217 #[.agg #[.int .i64 m,.int .i64 x,.int .i64 m',.int .i64 x',.int .i64 d,.int .i64 r,.int .i64 b,.int .i64 f,.int .i64 p]] w fun e w'=>Kept w w'/\e=.returned (.bool (decide (1<=p/\f<=p-r-b))):=by
 have hw:IntKind.i64.wrap (p-r)=p-r:=by rw[IntKind.wrap_i64];omega
 have hw':IntKind.i64.wrap (p-r-b)=p-r-b:=by rw[IntKind.wrap_i64];omega
 go_enter Tryz.func217,Tryz.ntmps217
 by_cases h1:1<=p
 ·go_wp2_with fail
  all_goals
   go_ret
   refine⟨(Kept.refl w).alloc _,congrArg (fun b=>Ending.returned (Value.bool b)) ?_⟩
   simp_all
 ·go_wp2_with fail
  all_goals
   go_ret
   refine⟨(Kept.refl w).alloc _,congrArg (fun b=>Ending.returned (Value.bool b)) ?_⟩
   simp_all
   try omega
end V
namespace D
end D
namespace F
end F
end Go.Proofs.YtdjhmgmjiglcbaaGreatDoor
namespace Go.Proofs.YtdjhmgmjiglcbaaGreatDoor
open Go.ChangeShapes Go.WideShapes Go.ChangeAt Go.RowKit Go.Joins Go.Deep
namespace V
theorem cells_num:Tryz.prog.cellsOf 25=2:=by kernel_rfl
theorem cells_nums:Tryz.prog.cellsOf 42=1:=by kernel_rfl
theorem cells_i:Tryz.prog.cellsOf 3=1:=by kernel_rfl
theorem cells_i64:Tryz.prog.cellsOf 2=1:=by kernel_rfl
theorem cells_u8:Tryz.prog.cellsOf 5=1:=by kernel_rfl
theorem cells_str:Tryz.prog.cellsOf 9=1:=by kernel_rfl
theorem bytes_num:Tryz.prog.bytesOf 25=16:=by kernel_rfl
def I64 (n:Int):Prop:=-9223372036854775808<=n/\n<=9223372036854775807
theorem bnd {x:Int}(w:(Lit.int .i64 x).wf=true):I64 x:=by
 unfold I64
 simpa[Lit.wf,IntKind.min,IntKind.max,IntKind.signed,IntKind.bits]using w
theorem open_pair {H:Type}{enc:TypeId×Value->H}{W:World}{fuel:Nat}{c0 c1:Value}{y:DataW H×List MemPlace}(h:DataW.trod enc Tryz.prog W 0 (fun _=>true) true fuel 25 [c0,c1]=some y) :
  ∃m x:Int,c0=.int .i64 m/\c1=.int .i64 x/\I64 m/\I64 x:=by
 obtain⟨y0,y1,n,_,_,h0,h1⟩:=trod_struct2 (cs:=[c0,c1]) Tryz.underlying25 h
 simp only[cells_i64,List.drop_zero,List.take_succ_cons,List.take_zero]at h0
 simp only[cells_i,List.drop_succ_cons,List.drop_zero,List.take_succ_cons,List.take_zero]at h1
 obtain⟨m,e0,_,wm⟩:=DataW.trod_int Tryz.underlying2 h0
 obtain⟨x,e1,_,wx⟩:=DataW.trod_int Tryz.underlying3 h1
 simp at e0 e1
 exact⟨m,x,e0,e1,bnd wm,bnd wx⟩
theorem list_of {n:Nat}(X:Nat->Int×Int):∃l:List (Int×Int),l.length=n/\∀i,i<n->l.getD i (0,0)=X i:=by
 refine⟨(List.range n).map X,by simp,fun i hi=>?_⟩
 rw[List.getD_eq_getElem?_getD,List.getElem?_map,List.getElem?_range hi]
 rfl
theorem open_nums {H:Type}{enc:TypeId×Value->H}{W:World}{fuel:Nat}{a0:Option Addr}{len0 cap0:Nat}{y:DataW H×List MemPlace}(h:DataW.trod enc Tryz.prog W 0 (fun _=>true) true fuel 42 [.slice a0 len0 cap0]=some y) :
  ∃l,NSl W (.slice a0 len0 cap0) l/\len0<=9223372036854775807:=by
 rcases open_slice Tryz.underlying42 h with ⟨hcs,_⟩|⟨a,len,cap,mm,nn,D,Pl,hcs,_,hl,hm,hmm,_,hx⟩
 ·simp at hcs
  obtain⟨rfl,rfl,rfl⟩:=hcs
  exact⟨[],⟨none,0,rfl,fun h=>absurd h (by decide)⟩,by omega⟩
 ·simp at hcs
  obtain⟨rfl,rfl,rfl⟩:=hcs
  have hlen:len0<=9223372036854775807:=by unfold maxLen at hm;omega
  rw[if_pos rfl]at hmm
  by_cases hN:0<len0
  ·have hspot:a.spot=none:=by
    obtain⟨cs',h1,_⟩:=hx 0 (by omega)
    rw[cells_num]at h1
    obtain⟨_,hlen4,hc⟩:=World.cells?_some h1
    have h0:=hc 0 (by omega)
    simp[Addr.add]at h0
    exact World.cell?_spot (h0.trans (List.getElem?_eq_getElem (by omega)))
   obtain⟨b,off,spot⟩:=a
   simp at hspot
   subst hspot
   obtain⟨X,hX⟩:=choose_lt (n:=len0) (p:=fun i (x:Int×Int)=>W.cell? ⟨b,off+i*2,none⟩=some (.int .i64 x.1)/\W.cell? ⟨b,off+i*2+1,none⟩=some (.int .i64 x.2)) (fun i hi=>by
    obtain⟨cs',h1,h2⟩:=hx i (by omega)
    rw[cells_num]at h1
    obtain⟨_,hlen4,hc⟩:=World.cells?_some h1
    match cs',hlen4 with
    | [x0,x1],_=>
     obtain⟨m,x,rfl,rfl,_,_⟩:=open_pair h2
     have add4:∀q j,((⟨b,off,none⟩:Addr).add q).add j=⟨b,off+q+j,none⟩:=fun q j=>by
      unfold Addr.add
      by_cases hi0:q=0 <;> by_cases hj0:j=0 <;> simp[hi0,hj0]
     have c0:=hc 0 (by omega)
     have c1:=hc 1 (by omega)
     rw[add4]at c0 c1
     exact⟨(m,x),c0,c1⟩)
   obtain⟨l,hll,hg⟩:=list_of (n:=len0) X
   refine⟨l,⟨some ⟨b,off,none⟩,cap0,by rw[hll],fun _=>⟨b,off,rfl,World.block_lt_of_cell? W _ (hX 0 hN).1,fun j hj=>?_⟩⟩,hlen⟩
   rw[hg j (by omega)]
   exact hX j (by omega)
  ·obtain rfl:len0=0:=by omega
   exact⟨[],⟨some a,cap0,rfl,fun h=>absurd h (by decide)⟩,by omega⟩
end V
end Go.Proofs.YtdjhmgmjiglcbaaGreatDoor
