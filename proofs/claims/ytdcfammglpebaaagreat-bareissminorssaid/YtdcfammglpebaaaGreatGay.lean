/- The reference's fractions (package shuntref02): variables on the heap, values, lowest terms. shuntref02.Lowest: a fraction in lowest terms. shuntref02 over greater numbers: Plus, Over, Minus (as Gops, with greater bounds). shuntref02: Less of greater numbers. -/
import Derived.Test.YtdcfammglpebaaaGreatRset2
import Derived.Test.YtdcfammglpebaaaGreatGal
import Derived.Test.YtdcfammglpebaaaGreatGam
import Derived.Test.YtdcfammglpebaaaGreatGac
namespace Go.Proofs.YtdcfammglpebaaaGreat
open Go.RowKit
namespace F
def NRow (w:World) (p:Nat) (x0 x1:Value):Prop:=w.rowIs p 51 2 (fun i => if i = 0 then x0 else x1)
theorem NRow.alloc (w:World) (x0 x1:Value):NRow (w.alloc (.cells #[x0,x1] 51)) w.heap.size x0 x1 :=
 World.rowIs_alloc w #[x0,x1] 51 _ (fun i hi => by
  match i,hi with
  | 0,_ => rfl
  | 1,_ => rfl)
section
variable {w w':World} {p q:Nat} {x0 x1:Value}
theorem NRow.lt (h:NRow w p x0 x1):p < w.heap.size:=World.rowIs.lt h
theorem NRow.c0 (h:NRow w p x0 x1):w.cell? ⟨p,0,none⟩ = some x0:=World.rowIs.cell h (i:=0) (by omega)
theorem NRow.c1 (h:NRow w p x0 x1):w.cell? ⟨p,1,none⟩ = some x1:=World.rowIs.cell h (i:=1) (by omega)
theorem NRow.fz (h:NRow w p x0 x1) (o:Nat):w.frozen? ⟨p,o,none⟩ = false:=World.rowIs.frozen h o
theorem NRow.kept (h:NRow w p x0 x1) (k:Kept w w'):NRow w' p x0 x1:=World.rowIs.of_block h (k.block p h.lt)
theorem NRow.set2 (h:NRow w p x0 x1) (y0 y1:Value):NRow ((w.setCell ⟨p,0,none⟩ y0).setCell ⟨p,1,none⟩ y1) p y0 y1 :=
 ((World.rowIs.set (World.rowIs.set h 0 y0) 1 y1).congr fun i hi => by
  match i,hi with
  | 0,_ => rfl
  | 1,_ => rfl)
theorem NRow.far (h:NRow w p x0 x1) (hne:¬ p = q) (x y:Value):NRow ((w.setCell ⟨q,0,none⟩ x).setCell ⟨q,1,none⟩ y) p x0 x1 :=
 World.rowIs.setOther (World.rowIs.setOther h hne x) hne y
theorem NRow.alloc2 (w:World) (x0 x1 y0 y1:Value):NRow ((w.alloc (.cells #[x0,x1] 51)).alloc (.cells #[y0,y1] 51)) w.heap.size x0 x1∧NRow ((w.alloc (.cells #[x0,x1] 51)).alloc (.cells #[y0,y1] 51)) (w.heap.size + 1) y0 y1:=by
 have h:=NRow.alloc (w.alloc (.cells #[x0,x1] 51)) y0 y1
 rw [World.size_alloc] at h
 exact ⟨(NRow.alloc w x0 x1).kept ((Kept.refl _).alloc _),h⟩
end
def FRow (w:World) (p:Nat) (x0 x1 x2 x3:Value):Prop:=w.rowIs p 111 4 (fun i => if i = 0 then x0 else if i = 1 then x1 else if i = 2 then x2 else x3)
theorem FRow.alloc (w:World) (x0 x1 x2 x3:Value):FRow (w.alloc (.cells #[x0,x1,x2,x3] 111)) w.heap.size x0 x1 x2 x3 :=
 World.rowIs_alloc w #[x0,x1,x2,x3] 111 _ (fun i hi => by
  match i,hi with
  | 0,_ => rfl
  | 1,_ => rfl
  | 2,_ => rfl
  | 3,_ => rfl)
section
variable {w w':World} {p q:Nat} {x0 x1 x2 x3:Value}
theorem FRow.lt (h:FRow w p x0 x1 x2 x3):p < w.heap.size:=World.rowIs.lt h
theorem FRow.c0 (h:FRow w p x0 x1 x2 x3):w.cell? ⟨p,0,none⟩ = some x0:=World.rowIs.cell h (i:=0) (by omega)
theorem FRow.c1 (h:FRow w p x0 x1 x2 x3):w.cell? ⟨p,1,none⟩ = some x1:=World.rowIs.cell h (i:=1) (by omega)
theorem FRow.c2 (h:FRow w p x0 x1 x2 x3):w.cell? ⟨p,2,none⟩ = some x2:=World.rowIs.cell h (i:=2) (by omega)
theorem FRow.c3 (h:FRow w p x0 x1 x2 x3):w.cell? ⟨p,3,none⟩ = some x3:=World.rowIs.cell h (i:=3) (by omega)
theorem FRow.fz (h:FRow w p x0 x1 x2 x3) (o:Nat):w.frozen? ⟨p,o,none⟩ = false:=World.rowIs.frozen h o
theorem FRow.kept (h:FRow w p x0 x1 x2 x3) (k:Kept w w'):FRow w' p x0 x1 x2 x3:=World.rowIs.of_block h (k.block p h.lt)
end
theorem frow_two {w:World} {p q:Nat} {x0 x1 x2 x3 y0 y1 y2 y3:Value} (h:FRow w p x0 x1 x2 x3) (h':FRow w q y0 y1 y2 y3):(w.cell? ⟨p,0,none⟩ = some x0∧w.cell? ⟨p,1,none⟩ = some x1∧w.cell? ⟨p,2,none⟩ = some x2∧w.cell? ⟨p,3,none⟩ = some x3)∧w.cell? ⟨q,0,none⟩ = some y0∧w.cell? ⟨q,1,none⟩ = some y1∧w.cell? ⟨q,2,none⟩ = some y2∧w.cell? ⟨q,3,none⟩ = some y3 :=
 ⟨⟨h.c0,h.c1,h.c2,h.c3⟩,h'.c0,h'.c1,h'.c2,h'.c3⟩
def put4 (w:World) (p:Nat) (x0 x1 x2 x3:Value):World:=(((w.setCell ⟨p,0,none⟩ x0).setCell ⟨p,1,none⟩ x1).setCell ⟨p,2,none⟩ x2).setCell ⟨p,3,none⟩ x3
theorem Kept.put4 {a b:World} {p:Nat} (h:Kept a b) (hp:a.heap.size≤p) (x0 x1 x2 x3:Value):Kept a (put4 b p x0 x1 x2 x3) :=
 (((h.setCell (p:=⟨p,0,none⟩) hp x0).setCell (p:=⟨p,1,none⟩) hp x1).setCell (p:=⟨p,2,none⟩) hp x2).setCell (p:=⟨p,3,none⟩) hp x3
theorem nset {w:World} {s:Bool} {v:Value} {z:Int} {p o:Nat} {u x:Value} (h:D.NIs w s v z) (h0:w.cell? ⟨p,o,none⟩ = some u) (hu:∀ k n,u ≠ .int k n):D.NIs (w.setCell ⟨p,o,none⟩ x) s v z:=by
 obtain ⟨l,⟨hb,ao,cap,rfl,hx⟩,h2⟩:=h
 refine ⟨l,⟨hb,ao,cap,rfl,fun hl => ?_⟩,h2⟩
 obtain ⟨k1,b',off',rfl,hlt,hc⟩:=hx hl
 refine ⟨k1,b',off',rfl,by rw [World.size_setCell]; exact hlt,fun j hj => ?_⟩
 rw [World.cell?_setCell_other _ _ _ _ (fun e => by have:=hc j hj; rw [← e,h0] at this; simp at this; exact hu _ _ this)]
 exact hc j hj
theorem nset4 {w:World} {s:Bool} {v:Value} {z:Int} {p:Nat} {b b':Bool} {ao ao':Option Addr} {n n' c c':Nat} {y0 y1 y2 y3:Value} (h:D.NIs w s v z) (hF:FRow w p (.bool b) (.slice ao n c) (.bool b') (.slice ao' n' c')):D.NIs (put4 w p y0 y1 y2 y3) s v z:=by
 have h0:=nset (p:=p) (o:=0) (x:=y0) h hF.c0 (by simp)
 have h1:=nset (p:=p) (o:=1) (x:=y1) h0 (by rw [World.cell?_setCell_other _ _ _ _ (by simp)]; exact hF.c1) (by simp)
 have h2:=nset (p:=p) (o:=2) (x:=y2) h1 (by rw [World.cell?_setCell_other _ _ _ _ (by simp),World.cell?_setCell_other _ _ _ _ (by simp)]; exact hF.c2) (by simp)
 exact nset (p:=p) (o:=3) (x:=y3) h2 (by rw [World.cell?_setCell_other _ _ _ _ (by simp),World.cell?_setCell_other _ _ _ _ (by simp),World.cell?_setCell_other _ _ _ _ (by simp)]; exact hF.c3) (by simp)
def FIs (w:World) (v:Value) (X Y:Int) (k k':Nat):Prop :=
 ∃ s ao n c t ap n' c',v = .agg #[.bool s,.slice ao n c,.bool t,.slice ap n' c']∧D.NIs w s (.slice ao n c) X∧D.NIs w t (.slice ap n' c') Y∧n≤k∧n'≤k'
theorem FIs.kept {w w':World} {v:Value} {X Y:Int} {k k':Nat} (h:FIs w v X Y k k') (hk:Kept w w'):FIs w' v X Y k k':=by
 obtain ⟨s,ao,n,c,t,ap,n',c',h1,h2,h3,h4⟩:=h
 exact ⟨s,ao,n,c,t,ap,n',c',h1,h2.kept hk,h3.kept hk,h4⟩
structure Low (X Y N D:Int):Prop where
 pos:0 < D
 low:Nat.gcd N.natAbs D.natAbs = 1
 eq:N * Y = X * D
theorem low_of {X Y:Int} (hY:0 < Y):Low X Y (Int.tdiv X ((Nat.gcd X.natAbs Y.natAbs:Nat):Int)) (Int.tdiv Y ((Nat.gcd X.natAbs Y.natAbs:Nat):Int)):=by
 obtain ⟨g,hg⟩:∃ g,g = Nat.gcd X.natAbs Y.natAbs:=⟨_,rfl⟩
 rw [← hg]
 have hp:0 < g:=by rw [hg]; exact Nat.gcd_pos_of_pos_right _ (by omega)
 obtain ⟨x,hx⟩:(g:Int) ∣ X:=by apply Int.natAbs_dvd_natAbs.1; rw [Int.natAbs_natCast,hg]; exact Nat.gcd_dvd_left _ _
 obtain ⟨y,hy⟩:(g:Int) ∣ Y:=by apply Int.natAbs_dvd_natAbs.1; rw [Int.natAbs_natCast,hg]; exact Nat.gcd_dvd_right _ _
 have e1:Int.tdiv X g = x:=by rw [hx]; exact Int.mul_tdiv_cancel_left _ (by omega)
 have e2:Int.tdiv Y g = y:=by rw [hy]; exact Int.mul_tdiv_cancel_left _ (by omega)
 rw [e1,e2]
 refine ⟨?_,?_,?_⟩
 ·
  rcases Int.lt_trichotomy y 0 with h | h | h
  ·
   have:=Int.mul_neg_of_pos_of_neg (show (0:Int) < g by omega) h; omega
  ·
   rw [h] at hy; simp at hy; omega
  ·
   exact h
 ·
  rw [hx,hy,Int.natAbs_mul,Int.natAbs_mul,Int.natAbs_natCast,Nat.gcd_mul_left] at hg
  exact Nat.eq_of_mul_eq_mul_left hp (by omega)
 ·
  rw [hx,hy,Int.mul_left_comm x,Int.mul_assoc]
theorem Low.neg {X Y N D:Int} (h:Low (-X) (-Y) N D):Low X Y N D:=⟨h.pos,h.low,by have:=h.eq; rw [Int.mul_neg,Int.neg_mul] at this; omega⟩
theorem Low.one {X Y N D N' D':Int} (h:Low X Y N D) (h':Low X Y N' D') (hY:Y ≠ 0):N = N'∧D = D':=by
 obtain ⟨p1,l1,e1⟩:=h
 obtain ⟨p2,l2,e2⟩:=h'
 have key:N * D' = N' * D:=by
  apply Int.eq_of_mul_eq_mul_right hY
  have a1:N * D' * Y = (N * Y) * D':=by grind
  have a2:N' * D * Y = (N' * Y) * D:=by grind
  rw [a1,a2,e1,e2]
  grind
 have e:=congrArg Int.natAbs key
 rw [Int.natAbs_mul,Int.natAbs_mul] at e
 have d1:D.natAbs ∣ D'.natAbs:=(Nat.Coprime.symm l1).dvd_of_dvd_mul_left (by rw [e]; exact Nat.dvd_mul_left _ _)
 have d2:D'.natAbs ∣ D.natAbs:=(Nat.Coprime.symm l2).dvd_of_dvd_mul_left (by rw [← e]; exact Nat.dvd_mul_left _ _)
 have hd:=Nat.dvd_antisymm d1 d2
 have hD:D = D':=by omega
 subst hD
 exact ⟨Int.eq_of_mul_eq_mul_right (by omega) key,rfl⟩
end F
end Go.Proofs.YtdcfammglpebaaaGreat

namespace Go.Proofs.YtdcfammglpebaaaGreat
open Go.RowKit
namespace F
theorem FRow.far {w:World} {p q:Nat} {x0 x1 x2 x3:Value} (h:FRow w p x0 x1 x2 x3) (hne:¬ p = q) (x y:Value):FRow ((w.setCell ⟨q,0,none⟩ x).setCell ⟨q,1,none⟩ y) p x0 x1 x2 x3 :=
 World.rowIs.setOther (World.rowIs.setOther h hne x) hne y
set_option maxRecDepth 100000 in
set_option maxHeartbeats 4000000 in
theorem Lowest_pos (m n:Bool) (aoa aob:Option Addr) (ka ca kb cb:Nat) (X Y:Int) (w:World) (ha:D.NIs w m (.slice aoa ka ca) X) (hb:D.NIs w n (.slice aob kb cb) Y) (hla:ka≤60000) (hlb:kb≤60000) (hy:0 < Y) :
  Calls Tryz.prog 93 #[.agg #[.bool m,.slice aoa ka ca],.agg #[.bool n,.slice aob kb cb]] w fun e w' => Kept w w'∧∃ v N D,e = .returned v∧FIs w' v N D ka kb∧Low X Y N D:=by
 have HA:Hid (D.NIs w m (.slice aoa ka ca) X∧D.NIs w n (.slice aob kb cb) Y):=⟨ha,hb⟩
 have HL:Hid (ka≤60000∧kb≤60000):=⟨hla,hlb⟩
 have HY:=hid' hy
 clear ha hb hla hlb hy
 go_enter Tryz.func93,Tryz.ntmps93
 go_upto_region 1 with fail
 have h2:=((NRow.alloc w (.bool m) (.slice aoa ka ca)).kept (((Kept.refl _).alloc (.cells #[.bool n,.slice aob kb cb] 51)).alloc (.cells #[.bool false,.slice none 0 0,.bool false,.slice none 0 0] 111)))
 have h3:=((NRow.alloc (w.alloc (.cells #[.bool m,.slice aoa ka ca] 51)) (.bool n) (.slice aob kb cb)).kept ((Kept.refl _).alloc (.cells #[.bool false,.slice none 0 0,.bool false,.slice none 0 0] 111)))
 have h4:=FRow.alloc ((w.alloc (.cells #[.bool m,.slice aoa ka ca] 51)).alloc (.cells #[.bool n,.slice aob kb cb] 51)) (.bool false) (.slice none 0 0) (.bool false) (.slice none 0 0)
 have hK:=((((Kept.refl w).alloc (.cells #[.bool m,.slice aoa ka ca] 51)).alloc (.cells #[.bool n,.slice aob kb cb] 51)).alloc (.cells #[.bool false,.slice none 0 0,.bool false,.slice none 0 0] 111))
 simp only [World.size_alloc] at h3 h4
 generalize ((w.alloc (.cells #[.bool m,.slice aoa ka ca] 51)).alloc (.cells #[.bool n,.slice aob kb cb] 51)).alloc (.cells #[.bool false,.slice none 0 0,.bool false,.slice none 0 0] 111) = W at h2 h3 h4 hK ⊢
 obtain ⟨p4,hp4⟩:∃ p,p = w.heap.size + 1 + 1:=⟨_,rfl⟩
 rw [← hp4] at h4 ⊢
 obtain ⟨p3,hp3⟩:∃ p,p = w.heap.size + 1:=⟨_,rfl⟩
 rw [← hp3] at h3 ⊢
 obtain ⟨p2,hp2⟩:∃ p,p = w.heap.size:=⟨_,rfl⟩
 rw [← hp2] at h2 ⊢
 have HP:Hid (w.heap.size≤p2∧w.heap.size≤p3∧w.heap.size≤p4):=⟨by omega,by omega,by omega⟩
 have n23:¬ p2 = p3:=by omega
 have n32:¬ p3 = p2:=by omega
 have n42:¬ p4 = p2:=by omega
 have n43:¬ p4 = p3:=by omega
 have n24:¬ p2 = p4:=by omega
 have n34:¬ p3 = p4:=by omega
 have HK:=hid' hK
 have H2:=hid' h2
 have H3:=hid' h3
 have H4:=hid' h4
 clear hp2 hp3 hp4 h2 h3 h4 hK
 have f0:=H3.out.c0
 have f1:=H3.out.c1
 go_wp2_with fail
 refine (D.Sign_any n aob kb cb Y _ (HA.out.2.kept HK.out) (by have:=HL.out; omega)).mono ?_
 rw [show isgn Y 0 = 1 by unfold isgn; rw [if_neg (by have:=HY.out; omega),if_neg (by have:=HY.out; omega)]]
 rintro e w1 ⟨rfl,hk⟩
 have HK:=hid' (HK.out.trans hk)
 have H2:=hid' (H2.out.kept hk)
 have H3:=hid' (H3.out.kept hk)
 have H4:=hid' (H4.out.kept hk)
 clear hk f0 f1
 have HC:Hid (Kept w w1∧NRow w1 p2 (.bool m) (.slice aoa ka ca)∧NRow w1 p3 (.bool n) (.slice aob kb cb)∧FRow w1 p4 (.bool false) (.slice none 0 0) (.bool false) (.slice none 0 0)∧∃ X' Y':Int,D.NIs w1 m (.slice aoa ka ca) X'∧D.NIs w1 n (.slice aob kb cb) Y'∧ka≤ka∧kb≤kb∧0 < Y'∧(X' = X∧Y' = Y ∨ X' = -X∧Y' = -Y)):=⟨HK.out,H2.out,H3.out,H4.out,X,Y,HA.out.1.kept HK.out,HA.out.2.kept HK.out,Nat.le_refl _,Nat.le_refl _,HY.out,.inl ⟨rfl,rfl⟩⟩
 obtain ⟨hK,h2,h3,h4,X',Y',hn,hd,hk1,hk2,hpos,hXY⟩:=HC.out
 have HK:=hid' hK
 have H2:=hid' h2
 have H3:=hid' h3
 have H4:=hid' h4
 have HN:=hid' (And.intro hn (And.intro hd (And.intro hk1 hk2)))
 have HLow:Hid (Low X Y (Int.tdiv X' ((Nat.gcd X'.natAbs Y'.natAbs:Nat):Int)) (Int.tdiv Y' ((Nat.gcd X'.natAbs Y'.natAbs:Nat):Int))):=by
  have h:=low_of (X:=X') hpos
  rcases hXY with ⟨rfl,rfl⟩ | ⟨rfl,rfl⟩
  ·
   exact h
  ·
   exact h.neg
 have HG0:Hid (((Nat.gcd X'.natAbs Y'.natAbs:Nat):Int) ≠ 0):=by
  have:=Nat.gcd_pos_of_pos_right (X'.natAbs) (show 0 < Y'.natAbs by omega)
  show _ ≠ _; omega
 clear hK h2 h3 h4 hn hd hk1 hk2 hpos hXY HC
 have f0:=H2.out.c0
 have f1:=H2.out.c1
 have f2:=H3.out.c0
 have f3:=H3.out.c1
 go_wp2_with fail
 refine (D.Common_any m n aoa aob ka kb ca cb X' Y' _ (HN.out.1.kept (Kept.refl w1)) (HN.out.2.1.kept (Kept.refl w1)) (by have h1:=HL.out; have h2:=HN.out.2.2; omega) (by have h1:=HL.out; have h2:=HN.out.2.2; omega)).mono ?_
 rintro e w3 ⟨hk,ag,kg,cg,rfl,ng,lg⟩
 clear f0 f1 f2 f3
 have H2:=hid' (H2.out.kept ((Kept.refl w1).trans hk))
 have H3:=hid' (H3.out.kept ((Kept.refl w1).trans hk))
 have H4:=hid' (H4.out.kept ((Kept.refl w1).trans hk))
 have HK:=hid' (HK.out.trans ((Kept.refl w1).trans hk))
 have HN:=hid' (And.intro (HN.out.1.kept ((Kept.refl w1).trans hk)) (And.intro (HN.out.2.1.kept ((Kept.refl w1).trans hk)) HN.out.2.2))
 have HG:=hid' (And.intro ng lg)
 clear ng lg
 clear hk
 have f4:=fun x0 => (H2.out.kept ((Kept.refl w3).alloc x0)).c0
 have f5:=fun x0 => (H2.out.kept ((Kept.refl w3).alloc x0)).c1
 have f6:=fun x0 => (H3.out.kept ((Kept.refl w3).alloc x0)).c0
 have f7:=fun x0 => (H3.out.kept ((Kept.refl w3).alloc x0)).c1
 go_wp2_with fail
 refine (D.Divide_any m false aoa ag ka kg ca cg X' _ _ (HN.out.1.kept ((Kept.refl w3).alloc _)) (HG.out.1.kept ((Kept.refl w3).alloc _)) (by have h1:=HL.out; have h2:=HN.out.2.2; omega) (by have h1:=HL.out; have h2:=HN.out.2.2; have h3:=HG.out.2; omega) HG0.out).mono ?_
 rintro e w4 ⟨hk,sq,aq,kq,cq,tq,ar,kr,cr,rfl,nq,nr,lq,lr⟩
 clear f4 f5 f6 f7
 have H5':=(NRow.alloc w3 (.bool false) (.slice ag kg cg)).kept ((Kept.refl _).trans hk)
 have H5:=hid' H5'
 clear H5'
 have H2:=hid' (H2.out.kept (((Kept.refl w3).alloc _).trans hk))
 have H3:=hid' (H3.out.kept (((Kept.refl w3).alloc _).trans hk))
 have H4:=hid' (H4.out.kept (((Kept.refl w3).alloc _).trans hk))
 have HK:=hid' (HK.out.trans (((Kept.refl w3).alloc _).trans hk))
 have HN:=hid' (And.intro (HN.out.1.kept (((Kept.refl w3).alloc _).trans hk)) (And.intro (HN.out.2.1.kept (((Kept.refl w3).alloc _).trans hk)) HN.out.2.2))
 have HG:=hid' (And.intro (HG.out.1.kept (((Kept.refl w3).alloc _).trans hk)) HG.out.2)
 have HQ:=hid' (And.intro nq lq)
 clear nq nr lq lr
 clear hk
 have f8:=fun x0 x1 => (H3.out.kept (((Kept.refl w4).alloc x0).alloc x1)).c0
 have f9:=fun x0 x1 => (H3.out.kept (((Kept.refl w4).alloc x0).alloc x1)).c1
 have f10:=fun x0 x1 => (H5.out.kept (((Kept.refl w4).alloc x0).alloc x1)).c0
 have f11:=fun x0 x1 => (H5.out.kept (((Kept.refl w4).alloc x0).alloc x1)).c1
 go_wp2_with fail
 refine (D.Divide_any n false aob ag kb kg cb cg Y' _ _ (HN.out.2.1.kept (((Kept.refl w4).alloc _).alloc _)) (HG.out.1.kept (((Kept.refl w4).alloc _).alloc _)) (by have h1:=HL.out; have h2:=HN.out.2.2; omega) (by have h1:=HL.out; have h2:=HN.out.2.2; have h3:=HG.out.2; omega) HG0.out).mono ?_
 rintro e w5 ⟨hk,sd,a8,kd,cd,td,a9,ke,ce,rfl,nd,ne,ld,le⟩
 clear f8 f9 f10 f11
 have H6':=(NRow.alloc w4 (.bool sq) (.slice aq kq cq)).kept (((Kept.refl _).alloc _).trans hk)
 have H6:=hid' H6'
 clear H6'
 have H7':=(NRow.alloc (w4.alloc (.cells #[.bool sq,.slice aq kq cq] 51)) (.bool tq) (.slice ar kr cr)).kept ((Kept.refl _).trans hk)
 simp only [World.size_alloc] at H7'
 have H7:=hid' H7'
 clear H7'
 have H2:=hid' (H2.out.kept ((((Kept.refl w4).alloc _).alloc _).trans hk))
 have H3:=hid' (H3.out.kept ((((Kept.refl w4).alloc _).alloc _).trans hk))
 have H4:=hid' (H4.out.kept ((((Kept.refl w4).alloc _).alloc _).trans hk))
 have H5:=hid' (H5.out.kept ((((Kept.refl w4).alloc _).alloc _).trans hk))
 have HK:=hid' (HK.out.trans ((((Kept.refl w4).alloc _).alloc _).trans hk))
 have HN:=hid' (And.intro (HN.out.1.kept ((((Kept.refl w4).alloc _).alloc _).trans hk)) (And.intro (HN.out.2.1.kept ((((Kept.refl w4).alloc _).alloc _).trans hk)) HN.out.2.2))
 have HG:=hid' (And.intro (HG.out.1.kept ((((Kept.refl w4).alloc _).alloc _).trans hk)) HG.out.2)
 have HQ:=hid' (And.intro (HQ.out.1.kept ((((Kept.refl w4).alloc _).alloc _).trans hk)) HQ.out.2)
 have HD:=hid' (And.intro nd ld)
 clear nd ne ld le
 clear hk
 have f0:=fun x y => (H6.out.kept (((Kept.refl w5).alloc x).alloc y)).c0
 have f1:=fun x y => (H6.out.kept (((Kept.refl w5).alloc x).alloc y)).c1
 go_upto_region 6 with fail
 have hk:=((Kept.refl w5).alloc (.cells #[.bool sd,.slice a8 kd cd] 51)).alloc (.cells #[.bool td,.slice a9 ke ce] 51)
 have h89:=NRow.alloc2 w5 (.bool sd) (.slice a8 kd cd) (.bool td) (.slice a9 ke ce)
 generalize (w5.alloc (.cells #[.bool sd,.slice a8 kd cd] 51)).alloc (.cells #[.bool td,.slice a9 ke ce] 51) = W6 at hk h89 ⊢
 obtain ⟨p8,hp8⟩:∃ p,p = w5.heap.size:=⟨_,rfl⟩
 rw [← hp8] at h89 ⊢
 have h8:=h89.1
 have H4:=hid' (H4.out.kept hk)
 have H6:=hid' (H6.out.kept hk)
 have HK:=hid' (HK.out.trans hk)
 have HQ:=hid' (And.intro (HQ.out.1.kept hk) HQ.out.2)
 have HD:=hid' (And.intro (HD.out.1.kept hk) HD.out.2)
 have q0:=H6.out.c0
 have q1:=H6.out.c1
 have q2:=h8.c0
 have q3:=h8.c1
 have e0:=H4.out.c0
 have e1:=H4.out.c1
 have e2:=H4.out.c2
 have e3:=H4.out.c3
 have g0:=H4.out.fz 0
 have g1:=H4.out.fz 1
 have g2:=H4.out.fz 2
 have g3:=H4.out.fz 3
 clear hk h89 h8 hp8 f0 f1
 go_wp2
 refine bodyPost_ret (v:=.agg #[.bool sq,.slice aq kq cq,.bool sd,.slice a8 kd cd]) (by simp [results,Tryz.results93,go_sem,e0,e1,e2,e3]) rfl ⟨Kept.put4 HK.out HP.out.2.2 _ _ _ _,_,_,_,rfl,⟨sq,aq,kq,cq,sd,a8,kd,cd,rfl,nset4 HQ.out.1 H4.out,nset4 HD.out.1 H4.out,by have h1:=HQ.out.2; have h2:=HN.out.2.2; omega,by have h1:=HD.out.2; have h2:=HN.out.2.2; omega⟩,HLow.out⟩
set_option maxRecDepth 100000 in
set_option maxHeartbeats 4000000 in
theorem Lowest_neg (m n:Bool) (aoa aob:Option Addr) (ka ca kb cb:Nat) (X Y:Int) (w:World) (ha:D.NIs w m (.slice aoa ka ca) X) (hb:D.NIs w n (.slice aob kb cb) Y) (hla:ka≤60000) (hlb:kb≤60000) (hy:Y < 0) :
  Calls Tryz.prog 93 #[.agg #[.bool m,.slice aoa ka ca],.agg #[.bool n,.slice aob kb cb]] w fun e w' => Kept w w'∧∃ v N D,e = .returned v∧FIs w' v N D ka kb∧Low X Y N D:=by
 have HA:Hid (D.NIs w m (.slice aoa ka ca) X∧D.NIs w n (.slice aob kb cb) Y):=⟨ha,hb⟩
 have HL:Hid (ka≤60000∧kb≤60000):=⟨hla,hlb⟩
 have HY:=hid' hy
 clear ha hb hla hlb hy
 go_enter Tryz.func93,Tryz.ntmps93
 go_upto_region 1 with fail
 have h2:=((NRow.alloc w (.bool m) (.slice aoa ka ca)).kept (((Kept.refl _).alloc (.cells #[.bool n,.slice aob kb cb] 51)).alloc (.cells #[.bool false,.slice none 0 0,.bool false,.slice none 0 0] 111)))
 have h3:=((NRow.alloc (w.alloc (.cells #[.bool m,.slice aoa ka ca] 51)) (.bool n) (.slice aob kb cb)).kept ((Kept.refl _).alloc (.cells #[.bool false,.slice none 0 0,.bool false,.slice none 0 0] 111)))
 have h4:=FRow.alloc ((w.alloc (.cells #[.bool m,.slice aoa ka ca] 51)).alloc (.cells #[.bool n,.slice aob kb cb] 51)) (.bool false) (.slice none 0 0) (.bool false) (.slice none 0 0)
 have hK:=((((Kept.refl w).alloc (.cells #[.bool m,.slice aoa ka ca] 51)).alloc (.cells #[.bool n,.slice aob kb cb] 51)).alloc (.cells #[.bool false,.slice none 0 0,.bool false,.slice none 0 0] 111))
 simp only [World.size_alloc] at h3 h4
 generalize ((w.alloc (.cells #[.bool m,.slice aoa ka ca] 51)).alloc (.cells #[.bool n,.slice aob kb cb] 51)).alloc (.cells #[.bool false,.slice none 0 0,.bool false,.slice none 0 0] 111) = W at h2 h3 h4 hK ⊢
 obtain ⟨p4,hp4⟩:∃ p,p = w.heap.size + 1 + 1:=⟨_,rfl⟩
 rw [← hp4] at h4 ⊢
 obtain ⟨p3,hp3⟩:∃ p,p = w.heap.size + 1:=⟨_,rfl⟩
 rw [← hp3] at h3 ⊢
 obtain ⟨p2,hp2⟩:∃ p,p = w.heap.size:=⟨_,rfl⟩
 rw [← hp2] at h2 ⊢
 have HP:Hid (w.heap.size≤p2∧w.heap.size≤p3∧w.heap.size≤p4):=⟨by omega,by omega,by omega⟩
 have n23:¬ p2 = p3:=by omega
 have n32:¬ p3 = p2:=by omega
 have n42:¬ p4 = p2:=by omega
 have n43:¬ p4 = p3:=by omega
 have n24:¬ p2 = p4:=by omega
 have n34:¬ p3 = p4:=by omega
 have HK:=hid' hK
 have H2:=hid' h2
 have H3:=hid' h3
 have H4:=hid' h4
 clear hp2 hp3 hp4 h2 h3 h4 hK
 have f0:=H3.out.c0
 have f1:=H3.out.c1
 go_wp2_with fail
 refine (D.Sign_any n aob kb cb Y _ (HA.out.2.kept HK.out) (by have:=HL.out; omega)).mono ?_
 rw [show isgn Y 0 = -1 by unfold isgn; rw [if_pos HY.out]]
 rintro e w1 ⟨rfl,hk⟩
 have HK:=hid' (HK.out.trans hk)
 have H2:=hid' (H2.out.kept hk)
 have H3:=hid' (H3.out.kept hk)
 have H4:=hid' (H4.out.kept hk)
 clear hk f0 f1
 go_upto_region 2 with fail
 go_cut [2] (fun s2 wc => s2 = .pointer (some ⟨p2,0,none⟩)∧∃ (s t:Bool) (ao ap:Option Addr) (k c k' c':Nat),Hid (Kept w wc∧NRow wc p2 (.bool s) (.slice ao k c)∧NRow wc p3 (.bool t) (.slice ap k' c')∧FRow wc p4 (.bool false) (.slice none 0 0) (.bool false) (.slice none 0 0)∧∃ X' Y':Int,D.NIs wc s (.slice ao k c) X'∧D.NIs wc t (.slice ap k' c') Y'∧k≤ka∧k'≤kb∧0 < Y'∧(X' = X∧Y' = Y ∨ X' = -X∧Y' = -Y)))
 case first =>
  have HV:Hid (∀ V,Kept w1 V→(V.cell? ⟨p2,0,none⟩ = some (.bool m)∧V.cell? ⟨p2,1,none⟩ = some (.slice aoa ka ca))∧(V.cell? ⟨p3,0,none⟩ = some (.bool n)∧V.cell? ⟨p3,1,none⟩ = some (.slice aob kb cb))):=fun V hV => ⟨⟨(H2.out.kept hV).c0,(H2.out.kept hV).c1⟩,(H3.out.kept hV).c0,(H3.out.kept hV).c1⟩
  obtain ⟨⟨q0,q1⟩,q2,q3⟩:=HV.out _ (Kept.refl w1)
  go_region_with (first
   | (go_at_call_of 91 (Value.slice aoa ka ca); refine (D.Minus_any m aoa ka ca X _ (HA.out.1.kept (HK.out.trans (Kept.refl _).drew)) (by have:=HL.out; omega)).mono ?_; rintro e w3 ⟨hk3,s3,a3,c3,rfl,n3⟩; obtain ⟨⟨d0,d1⟩,d2,d3⟩:=HV.out _ ((Kept.refl _).drew.trans hk3))
   | (go_at_call_of 91 (Value.slice aob kb cb); refine (D.Minus_any n aob kb cb Y _ (HA.out.2.kept (HK.out.trans ((Kept.refl _).drew.trans hk3))) (by have:=HL.out; omega)).mono ?_; rintro e w4 ⟨hk4,s4,a4,c4,rfl,n4⟩; have hk5:=((Kept.refl w1).drew.trans hk3).trans hk4; have h2':=H2.out.kept hk5; have h3':=H3.out.kept hk5; have g0:=h2'.c0; have g1:=h2'.c1; have g2:=h2'.fz 0; have g3:=h2'.fz 1; have g4:=h3'.c0; have g5:=h3'.c1; have g6:=h3'.fz 0; have g7:=h3'.fz 1))
  all_goals
   have HN4:=hid' (And.intro (n3.kept hk4) n4)
   have HB:=hid' (And.intro hk5 (And.intro (H2.out.kept hk5) (And.intro (H3.out.kept hk5) (H4.out.kept hk5))))
   clear q0 q1 q2 q3 d0 d1 d2 d3 g0 g1 g2 g3 g4 g5 g6 g7 h2' h3' hk3 hk4 hk5 n3 n4 HV
   go_wp2_with fail
   go_meet
   case rel => exact ⟨rfl,s3,s4,a3,a4,ka,c3,kb,c4,((((HK.out.trans HB.out.1).setCell (p:=⟨p2,0,none⟩) HP.out.1 _).setCell (p:=⟨p2,1,none⟩) HP.out.1 _).setCell (p:=⟨p3,0,none⟩) HP.out.2.1 _).setCell (p:=⟨p3,1,none⟩) HP.out.2.1 _,(HB.out.2.1.set2 _ _).far n23 _ _,(HB.out.2.2.1.far n32 _ _).set2 _ _,FRow.far (FRow.far HB.out.2.2.2 n42 _ _) n43 _ _,-X,-Y,D.NIs.box2 (D.NIs.box2 HN4.out.1 HB.out.2.1.c0 HB.out.2.1.c1 _ _) (HB.out.2.2.1.far n32 _ _).c0 (HB.out.2.2.1.far n32 _ _).c1 _ _,D.NIs.box2 (D.NIs.box2 HN4.out.2 HB.out.2.1.c0 HB.out.2.1.c1 _ _) (HB.out.2.2.1.far n32 _ _).c0 (HB.out.2.2.1.far n32 _ _).c1 _ _,Nat.le_refl _,Nat.le_refl _,by have:=HY.out; omega,.inr ⟨rfl,rfl⟩⟩
 case rest =>
  obtain ⟨rfl,s,t,ao,ap,k,c,k',c',HC⟩:=hcut
  obtain ⟨hK,h2,h3,h4,X',Y',hn,hd,hk1,hk2,hpos,hXY⟩:=HC.out
  have HK:=hid' hK
  have H2:=hid' h2
  have H3:=hid' h3
  have H4:=hid' h4
  have HN:=hid' (And.intro hn (And.intro hd (And.intro hk1 hk2)))
  have HLow:Hid (Low X Y (Int.tdiv X' ((Nat.gcd X'.natAbs Y'.natAbs:Nat):Int)) (Int.tdiv Y' ((Nat.gcd X'.natAbs Y'.natAbs:Nat):Int))):=by
   have h:=low_of (X:=X') hpos
   rcases hXY with ⟨rfl,rfl⟩ | ⟨rfl,rfl⟩
   ·
    exact h
   ·
    exact h.neg
  have HG0:Hid (((Nat.gcd X'.natAbs Y'.natAbs:Nat):Int) ≠ 0):=by
   have:=Nat.gcd_pos_of_pos_right (X'.natAbs) (show 0 < Y'.natAbs by omega)
   show _ ≠ _; omega
  clear hK h2 h3 h4 hn hd hk1 hk2 hpos hXY HC
  have f0:=H2.out.c0
  have f1:=H2.out.c1
  have f2:=H3.out.c0
  have f3:=H3.out.c1
  go_wp2_with fail
  refine (D.Common_any s t ao ap k k' c c' X' Y' _ (HN.out.1.kept (Kept.refl wc)) (HN.out.2.1.kept (Kept.refl wc)) (by have h1:=HL.out; have h2:=HN.out.2.2; omega) (by have h1:=HL.out; have h2:=HN.out.2.2; omega)).mono ?_
  rintro e w3 ⟨hk,ag,kg,cg,rfl,ng,lg⟩
  clear f0 f1 f2 f3
  have H2:=hid' (H2.out.kept ((Kept.refl wc).trans hk))
  have H3:=hid' (H3.out.kept ((Kept.refl wc).trans hk))
  have H4:=hid' (H4.out.kept ((Kept.refl wc).trans hk))
  have HK:=hid' (HK.out.trans ((Kept.refl wc).trans hk))
  have HN:=hid' (And.intro (HN.out.1.kept ((Kept.refl wc).trans hk)) (And.intro (HN.out.2.1.kept ((Kept.refl wc).trans hk)) HN.out.2.2))
  have HG:=hid' (And.intro ng lg)
  clear ng lg
  clear hk
  have f4:=fun x0 => (H2.out.kept ((Kept.refl w3).alloc x0)).c0
  have f5:=fun x0 => (H2.out.kept ((Kept.refl w3).alloc x0)).c1
  have f6:=fun x0 => (H3.out.kept ((Kept.refl w3).alloc x0)).c0
  have f7:=fun x0 => (H3.out.kept ((Kept.refl w3).alloc x0)).c1
  go_wp2_with fail
  refine (D.Divide_any s false ao ag k kg c cg X' _ _ (HN.out.1.kept ((Kept.refl w3).alloc _)) (HG.out.1.kept ((Kept.refl w3).alloc _)) (by have h1:=HL.out; have h2:=HN.out.2.2; omega) (by have h1:=HL.out; have h2:=HN.out.2.2; have h3:=HG.out.2; omega) HG0.out).mono ?_
  rintro e w4 ⟨hk,sq,aq,kq,cq,tq,ar,kr,cr,rfl,nq,nr,lq,lr⟩
  clear f4 f5 f6 f7
  have H5':=(NRow.alloc w3 (.bool false) (.slice ag kg cg)).kept ((Kept.refl _).trans hk)
  have H5:=hid' H5'
  clear H5'
  have H2:=hid' (H2.out.kept (((Kept.refl w3).alloc _).trans hk))
  have H3:=hid' (H3.out.kept (((Kept.refl w3).alloc _).trans hk))
  have H4:=hid' (H4.out.kept (((Kept.refl w3).alloc _).trans hk))
  have HK:=hid' (HK.out.trans (((Kept.refl w3).alloc _).trans hk))
  have HN:=hid' (And.intro (HN.out.1.kept (((Kept.refl w3).alloc _).trans hk)) (And.intro (HN.out.2.1.kept (((Kept.refl w3).alloc _).trans hk)) HN.out.2.2))
  have HG:=hid' (And.intro (HG.out.1.kept (((Kept.refl w3).alloc _).trans hk)) HG.out.2)
  have HQ:=hid' (And.intro nq lq)
  clear nq nr lq lr
  clear hk
  have f8:=fun x0 x1 => (H3.out.kept (((Kept.refl w4).alloc x0).alloc x1)).c0
  have f9:=fun x0 x1 => (H3.out.kept (((Kept.refl w4).alloc x0).alloc x1)).c1
  have f10:=fun x0 x1 => (H5.out.kept (((Kept.refl w4).alloc x0).alloc x1)).c0
  have f11:=fun x0 x1 => (H5.out.kept (((Kept.refl w4).alloc x0).alloc x1)).c1
  go_wp2_with fail
  refine (D.Divide_any t false ap ag k' kg c' cg Y' _ _ (HN.out.2.1.kept (((Kept.refl w4).alloc _).alloc _)) (HG.out.1.kept (((Kept.refl w4).alloc _).alloc _)) (by have h1:=HL.out; have h2:=HN.out.2.2; omega) (by have h1:=HL.out; have h2:=HN.out.2.2; have h3:=HG.out.2; omega) HG0.out).mono ?_
  rintro e w5 ⟨hk,sd,a8,kd,cd,td,a9,ke,ce,rfl,nd,ne,ld,le⟩
  clear f8 f9 f10 f11
  have H6':=(NRow.alloc w4 (.bool sq) (.slice aq kq cq)).kept (((Kept.refl _).alloc _).trans hk)
  have H6:=hid' H6'
  clear H6'
  have H7':=(NRow.alloc (w4.alloc (.cells #[.bool sq,.slice aq kq cq] 51)) (.bool tq) (.slice ar kr cr)).kept ((Kept.refl _).trans hk)
  simp only [World.size_alloc] at H7'
  have H7:=hid' H7'
  clear H7'
  have H2:=hid' (H2.out.kept ((((Kept.refl w4).alloc _).alloc _).trans hk))
  have H3:=hid' (H3.out.kept ((((Kept.refl w4).alloc _).alloc _).trans hk))
  have H4:=hid' (H4.out.kept ((((Kept.refl w4).alloc _).alloc _).trans hk))
  have H5:=hid' (H5.out.kept ((((Kept.refl w4).alloc _).alloc _).trans hk))
  have HK:=hid' (HK.out.trans ((((Kept.refl w4).alloc _).alloc _).trans hk))
  have HN:=hid' (And.intro (HN.out.1.kept ((((Kept.refl w4).alloc _).alloc _).trans hk)) (And.intro (HN.out.2.1.kept ((((Kept.refl w4).alloc _).alloc _).trans hk)) HN.out.2.2))
  have HG:=hid' (And.intro (HG.out.1.kept ((((Kept.refl w4).alloc _).alloc _).trans hk)) HG.out.2)
  have HQ:=hid' (And.intro (HQ.out.1.kept ((((Kept.refl w4).alloc _).alloc _).trans hk)) HQ.out.2)
  have HD:=hid' (And.intro nd ld)
  clear nd ne ld le
  clear hk
  have f0:=fun x y => (H6.out.kept (((Kept.refl w5).alloc x).alloc y)).c0
  have f1:=fun x y => (H6.out.kept (((Kept.refl w5).alloc x).alloc y)).c1
  go_upto_region 6 with fail
  have hk:=((Kept.refl w5).alloc (.cells #[.bool sd,.slice a8 kd cd] 51)).alloc (.cells #[.bool td,.slice a9 ke ce] 51)
  have h89:=NRow.alloc2 w5 (.bool sd) (.slice a8 kd cd) (.bool td) (.slice a9 ke ce)
  generalize (w5.alloc (.cells #[.bool sd,.slice a8 kd cd] 51)).alloc (.cells #[.bool td,.slice a9 ke ce] 51) = W6 at hk h89 ⊢
  obtain ⟨p8,hp8⟩:∃ p,p = w5.heap.size:=⟨_,rfl⟩
  rw [← hp8] at h89 ⊢
  have h8:=h89.1
  have H4:=hid' (H4.out.kept hk)
  have H6:=hid' (H6.out.kept hk)
  have HK:=hid' (HK.out.trans hk)
  have HQ:=hid' (And.intro (HQ.out.1.kept hk) HQ.out.2)
  have HD:=hid' (And.intro (HD.out.1.kept hk) HD.out.2)
  have q0:=H6.out.c0
  have q1:=H6.out.c1
  have q2:=h8.c0
  have q3:=h8.c1
  have e0:=H4.out.c0
  have e1:=H4.out.c1
  have e2:=H4.out.c2
  have e3:=H4.out.c3
  have g0:=H4.out.fz 0
  have g1:=H4.out.fz 1
  have g2:=H4.out.fz 2
  have g3:=H4.out.fz 3
  clear hk h89 h8 hp8 f0 f1
  go_wp2
  refine bodyPost_ret (v:=.agg #[.bool sq,.slice aq kq cq,.bool sd,.slice a8 kd cd]) (by simp [results,Tryz.results93,go_sem,e0,e1,e2,e3]) rfl ⟨Kept.put4 HK.out HP.out.2.2 _ _ _ _,_,_,_,rfl,⟨sq,aq,kq,cq,sd,a8,kd,cd,rfl,nset4 HQ.out.1 H4.out,nset4 HD.out.1 H4.out,by have h1:=HQ.out.2; have h2:=HN.out.2.2; omega,by have h1:=HD.out.2; have h2:=HN.out.2.2; omega⟩,HLow.out⟩
theorem Lowest_any (m n:Bool) (aoa aob:Option Addr) (ka ca kb cb:Nat) (X Y:Int) (w:World) (ha:D.NIs w m (.slice aoa ka ca) X) (hb:D.NIs w n (.slice aob kb cb) Y) (hla:ka≤60000) (hlb:kb≤60000) (hy:Y ≠ 0) :
  Calls Tryz.prog 93 #[.agg #[.bool m,.slice aoa ka ca],.agg #[.bool n,.slice aob kb cb]] w fun e w' => Kept w w'∧∃ v N D,e = .returned v∧FIs w' v N D ka kb∧Low X Y N D:=by
 rcases Int.lt_or_gt_of_ne hy with h | h
 ·
  exact Lowest_neg m n aoa aob ka ca kb cb X Y w ha hb hla hlb h
 ·
  exact Lowest_pos m n aoa aob ka ca kb cb X Y w ha hb hla hlb h
end F
end Go.Proofs.YtdcfammglpebaaaGreat

namespace Go.Proofs.YtdcfammglpebaaaGreat
open Go.RowKit
namespace F
theorem frow_all {w:World} {p:Nat} {x0 x1 x2 x3:Value} (h:FRow w p x0 x1 x2 x3):w.cell? ⟨p,0,none⟩ = some x0∧w.cell? ⟨p,1,none⟩ = some x1∧w.cell? ⟨p,2,none⟩ = some x2∧w.cell? ⟨p,3,none⟩ = some x3:=⟨h.c0,h.c1,h.c2,h.c3⟩
set_option maxRecDepth 100000 in
set_option maxHeartbeats 4000000 in
theorem FTimes_big (s t s' t':Bool) (a1 a2 b1 b2:Option Addr) (k1 c1 k2 c2 k3 c3 k4 c4:Nat) (X Y X' Y':Int) (w:World) (h1:D.NIs w s (.slice a1 k1 c1) X) (h2:D.NIs w t (.slice a2 k2 c2) Y) (h3:D.NIs w s' (.slice b1 k3 c3) X') (h4:D.NIs w t' (.slice b2 k4 c4) Y') (hk1:k1 + k3≤60000) (hk2:k2 + k4≤60000) (hy:Y ≠ 0) (hy':Y' ≠ 0) :
  Calls Tryz.prog 55 #[.agg #[.bool s,.slice a1 k1 c1,.bool t,.slice a2 k2 c2],.agg #[.bool s',.slice b1 k3 c3,.bool t',.slice b2 k4 c4]] w fun e w' => Kept w w'∧∃ v N D,e = .returned v∧FIs w' v N D (k1 + k3) (k2 + k4)∧Low (X * X') (Y * Y') N D:=by
 have HA:Hid (D.NIs w s (.slice a1 k1 c1) X∧D.NIs w t (.slice a2 k2 c2) Y∧D.NIs w s' (.slice b1 k3 c3) X'∧D.NIs w t' (.slice b2 k4 c4) Y'):=⟨h1,h2,h3,h4⟩
 have HL:Hid (k1 + k3≤60000∧k2 + k4≤60000∧Y * Y' ≠ 0):=⟨hk1,hk2,Int.mul_ne_zero hy hy'⟩
 clear h1 h2 h3 h4 hk1 hk2 hy hy'
 go_enter Tryz.func55,Tryz.ntmps55
 go_upto_region 1 with fail
 have r2:=((FRow.alloc w (.bool s) (.slice a1 k1 c1) (.bool t) (.slice a2 k2 c2)).kept (((Kept.refl _).alloc (.cells #[.bool s',.slice b1 k3 c3,.bool t',.slice b2 k4 c4] 111)).alloc (.cells #[.bool false,.slice none 0 0,.bool false,.slice none 0 0] 111)))
 have r3:=((FRow.alloc (w.alloc (.cells #[.bool s,.slice a1 k1 c1,.bool t,.slice a2 k2 c2] 111)) (.bool s') (.slice b1 k3 c3) (.bool t') (.slice b2 k4 c4)).kept ((Kept.refl _).alloc (.cells #[.bool false,.slice none 0 0,.bool false,.slice none 0 0] 111)))
 have r4:=FRow.alloc ((w.alloc (.cells #[.bool s,.slice a1 k1 c1,.bool t,.slice a2 k2 c2] 111)).alloc (.cells #[.bool s',.slice b1 k3 c3,.bool t',.slice b2 k4 c4] 111)) (.bool false) (.slice none 0 0) (.bool false) (.slice none 0 0)
 have hK:=((((Kept.refl w).alloc (.cells #[.bool s,.slice a1 k1 c1,.bool t,.slice a2 k2 c2] 111)).alloc (.cells #[.bool s',.slice b1 k3 c3,.bool t',.slice b2 k4 c4] 111)).alloc (.cells #[.bool false,.slice none 0 0,.bool false,.slice none 0 0] 111))
 simp only [World.size_alloc] at r3 r4
 generalize ((w.alloc (.cells #[.bool s,.slice a1 k1 c1,.bool t,.slice a2 k2 c2] 111)).alloc (.cells #[.bool s',.slice b1 k3 c3,.bool t',.slice b2 k4 c4] 111)).alloc (.cells #[.bool false,.slice none 0 0,.bool false,.slice none 0 0] 111) = W at r2 r3 r4 hK ⊢
 obtain ⟨p4,hp4⟩:∃ p,p = w.heap.size + 1 + 1:=⟨_,rfl⟩
 rw [← hp4] at r4 ⊢
 obtain ⟨p3,hp3⟩:∃ p,p = w.heap.size + 1:=⟨_,rfl⟩
 rw [← hp3] at r3 ⊢
 obtain ⟨p2,hp2⟩:∃ p,p = w.heap.size:=⟨_,rfl⟩
 rw [← hp2] at r2 ⊢
 have HP:Hid (w.heap.size≤p4):=by show _≤_; omega
 have n42:¬ p4 = p2:=by omega
 have n43:¬ p4 = p3:=by omega
 have HV:Hid (∀ V,Kept W V→FRow V p2 (.bool s) (.slice a1 k1 c1) (.bool t) (.slice a2 k2 c2)∧FRow V p3 (.bool s') (.slice b1 k3 c3) (.bool t') (.slice b2 k4 c4)∧FRow V p4 (.bool false) (.slice none 0 0) (.bool false) (.slice none 0 0)∧Kept w V):=fun V hV => ⟨r2.kept hV,r3.kept hV,r4.kept hV,hK.trans hV⟩
 have q0:=r2.c0
 have q1:=r2.c1
 have q2:=r2.c2
 have q3:=r2.c3
 have q4:=r3.c0
 have q5:=r3.c1
 have q6:=r3.c2
 have q7:=r3.c3
 clear hp2 hp3 hp4 r2 r3 r4 hK
 go_region_held3 (fun w' => w'.cell? ⟨p2,0,none⟩ = some (.bool s)∧w'.cell? ⟨p2,1,none⟩ = some (.slice a1 k1 c1)∧w'.cell? ⟨p2,2,none⟩ = some (.bool t)∧w'.cell? ⟨p2,3,none⟩ = some (.slice a2 k2 c2)∧w'.cell? ⟨p3,0,none⟩ = some (.bool s')∧w'.cell? ⟨p3,1,none⟩ = some (.slice b1 k3 c3)∧w'.cell? ⟨p3,2,none⟩ = some (.bool t')∧w'.cell? ⟨p3,3,none⟩ = some (.slice b2 k4 c4)) (go_keep) (first
  | (go_at_call_of 61 (Value.slice a1 k1 c1); refine (D.Times_any s s' a1 b1 k1 k3 c1 c3 X X' _ (HA.out.1.kept (HV.out _ (Kept.refl _).drew).2.2.2) (HA.out.2.2.1.kept (HV.out _ (Kept.refl _).drew).2.2.2) (by have:=HL.out; omega) (by have:=HL.out; omega)).mono ?_; rintro e w3 ⟨hk3,s3,a3,k3',c3',rfl,n3,l3⟩; have K3:=(Kept.refl W).drew.trans hk3; have H3:=hid' (And.intro n3 l3); clear n3 l3; obtain ⟨⟨d0,d1,d2,d3⟩,d4,d5,d6,d7⟩:=frow_two (HV.out _ K3).1 (HV.out _ K3).2.1)
  | (go_at_call_of 61 (Value.slice a2 k2 c2); refine (D.Times_any t t' a2 b2 k2 k4 c2 c4 Y Y' _ (HA.out.2.1.kept (HV.out _ K3).2.2.2) (HA.out.2.2.2.kept (HV.out _ K3).2.2.2) (by have:=HL.out; omega) (by have:=HL.out; omega)).mono ?_; rintro e w4 ⟨hk4,s4,a4,k4',c4',rfl,n4,l4⟩; have K4:=K3.trans hk4; have H4:=hid' (And.intro n4 (And.intro l4 (H3.out.1.kept hk4))); clear n4 l4; obtain ⟨⟨b0',b1',b2',b3'⟩,b4',b5',b6',b7'⟩:=frow_two (HV.out _ K4).1 (HV.out _ K4).2.1)
  | (go_at_call 93; refine (Lowest_any s3 s4 a3 a4 k3' c3' k4' c4' (X * X') (Y * Y') _ H4.out.2.2 H4.out.1 (by have h1:=H3.out.2; have h2:=HL.out; omega) (by have h1:=H4.out.2.1; have h2:=HL.out; omega) HL.out.2.2).mono ?_; rintro e w5 ⟨hk5,v5,N5,D5,rfl,hF5,hL5⟩; have K5:=K4.trans hk5; obtain ⟨s5,a5,k5,c5,t5,a6,k6,c6,rfl,n5,n6,l5,l6⟩:=hF5; have H5:=hid' (And.intro n5 (And.intro n6 (And.intro l5 (And.intro l6 hL5)))); clear n5 n6 l5 l6 hL5; obtain ⟨⟨g0,g1,g2,g3⟩,g4,g5,g6,g7⟩:=frow_two (HV.out _ K5).1 (HV.out _ K5).2.1; have z4:=(HV.out _ K5).2.2.1; have e0:=z4.c0; have e1:=z4.c1; have e2:=z4.c2; have e3:=z4.c3; have y0:=z4.fz 0; have y1:=z4.fz 1; have y2:=z4.fz 2; have y3:=z4.fz 3))
 have HZ:=hid' (And.intro z4 (HV.out _ K5).2.2.2)
 have HLL:Hid (k5≤k1 + k3∧k6≤k2 + k4):=by have h1:=H3.out.2; have h2:=H4.out.2.1; have h3:=H5.out; show _∧_; omega
 clear q0 q1 q2 q3 q4 q5 q6 q7 d0 d1 d2 d3 d4 d5 d6 d7 b0' b1' b2' b3' b4' b5' b6' b7' g0 g1 g2 g3 g4 g5 g6 g7 hk3 hk4 hk5 K3 K4 K5 HV z4
 go_wp2
 refine bodyPost_ret (v:=.agg #[.bool s5,.slice a5 k5 c5,.bool t5,.slice a6 k6 c6]) (by simp [results,Tryz.results55,go_sem,e0,e1,e2,e3]) rfl ⟨Kept.put4 HZ.out.2 HP.out _ _ _ _,_,N5,D5,rfl,⟨s5,a5,k5,c5,t5,a6,k6,c6,rfl,nset4 H5.out.1 HZ.out.1,nset4 H5.out.2.1 HZ.out.1,HLL.out.1,HLL.out.2⟩,H5.out.2.2.2.2⟩
set_option maxRecDepth 100000 in
set_option maxHeartbeats 4000000 in
theorem FPlus_big (s t s' t':Bool) (a1 a2 b1 b2:Option Addr) (k1 c1 k2 c2 k3 c3 k4 c4:Nat) (X Y X' Y':Int) (w:World) (h1:D.NIs w s (.slice a1 k1 c1) X) (h2:D.NIs w t (.slice a2 k2 c2) Y) (h3:D.NIs w s' (.slice b1 k3 c3) X') (h4:D.NIs w t' (.slice b2 k4 c4) Y') (hk:k1≤25000∧k2≤25000∧k3≤25000∧k4≤25000) (hy:Y * Y' ≠ 0) :
  Calls Tryz.prog 94 #[.agg #[.bool s,.slice a1 k1 c1,.bool t,.slice a2 k2 c2],.agg #[.bool s',.slice b1 k3 c3,.bool t',.slice b2 k4 c4]] w fun e w' => Kept w w'∧∃ v N D,e = .returned v∧FIs w' v N D 55000 55000∧Low (X * Y' + X' * Y) (Y * Y') N D:=by
 have HA:Hid (D.NIs w s (.slice a1 k1 c1) X∧D.NIs w t (.slice a2 k2 c2) Y∧D.NIs w s' (.slice b1 k3 c3) X'∧D.NIs w t' (.slice b2 k4 c4) Y'∧True):=⟨h1,h2,h3,h4,trivial⟩
 have HL:Hid ((k1≤25000∧k2≤25000∧k3≤25000∧k4≤25000)∧Y * Y' ≠ 0):=⟨hk,hy⟩
 clear h1 h2 h3 h4 hk hy
 go_enter Tryz.func94,Tryz.ntmps94
 go_upto_region 1 with fail
 have r2:=((FRow.alloc w (.bool s) (.slice a1 k1 c1) (.bool t) (.slice a2 k2 c2)).kept (((Kept.refl _).alloc (.cells #[.bool s',.slice b1 k3 c3,.bool t',.slice b2 k4 c4] 111)).alloc (.cells #[.bool false,.slice none 0 0,.bool false,.slice none 0 0] 111)))
 have r3:=((FRow.alloc (w.alloc (.cells #[.bool s,.slice a1 k1 c1,.bool t,.slice a2 k2 c2] 111)) (.bool s') (.slice b1 k3 c3) (.bool t') (.slice b2 k4 c4)).kept ((Kept.refl _).alloc (.cells #[.bool false,.slice none 0 0,.bool false,.slice none 0 0] 111)))
 have r4:=FRow.alloc ((w.alloc (.cells #[.bool s,.slice a1 k1 c1,.bool t,.slice a2 k2 c2] 111)).alloc (.cells #[.bool s',.slice b1 k3 c3,.bool t',.slice b2 k4 c4] 111)) (.bool false) (.slice none 0 0) (.bool false) (.slice none 0 0)
 have hK:=((((Kept.refl w).alloc (.cells #[.bool s,.slice a1 k1 c1,.bool t,.slice a2 k2 c2] 111)).alloc (.cells #[.bool s',.slice b1 k3 c3,.bool t',.slice b2 k4 c4] 111)).alloc (.cells #[.bool false,.slice none 0 0,.bool false,.slice none 0 0] 111))
 simp only [World.size_alloc] at r3 r4
 generalize ((w.alloc (.cells #[.bool s,.slice a1 k1 c1,.bool t,.slice a2 k2 c2] 111)).alloc (.cells #[.bool s',.slice b1 k3 c3,.bool t',.slice b2 k4 c4] 111)).alloc (.cells #[.bool false,.slice none 0 0,.bool false,.slice none 0 0] 111) = W at r2 r3 r4 hK ⊢
 obtain ⟨p4,hp4⟩:∃ p,p = w.heap.size + 1 + 1:=⟨_,rfl⟩
 rw [← hp4] at r4 ⊢
 obtain ⟨p3,hp3⟩:∃ p,p = w.heap.size + 1:=⟨_,rfl⟩
 rw [← hp3] at r3 ⊢
 obtain ⟨p2,hp2⟩:∃ p,p = w.heap.size:=⟨_,rfl⟩
 rw [← hp2] at r2 ⊢
 have HP:Hid (w.heap.size≤p4):=by show _≤_; omega
 have n42:¬ p4 = p2:=by omega
 have n43:¬ p4 = p3:=by omega
 have HV:Hid (∀ V,Kept W V→FRow V p2 (.bool s) (.slice a1 k1 c1) (.bool t) (.slice a2 k2 c2)∧FRow V p3 (.bool s') (.slice b1 k3 c3) (.bool t') (.slice b2 k4 c4)∧FRow V p4 (.bool false) (.slice none 0 0) (.bool false) (.slice none 0 0)∧Kept w V):=fun V hV => ⟨r2.kept hV,r3.kept hV,r4.kept hV,hK.trans hV⟩
 obtain ⟨⟨q0',q1',q2',q3'⟩,q4',q5',q6',q7'⟩:=frow_two r2 r3
 clear hp2 hp3 hp4 r2 r3 r4 hK
 go_region_held3 (fun w' => w'.cell? ⟨p2,0,none⟩ = some (.bool s)∧w'.cell? ⟨p2,1,none⟩ = some (.slice a1 k1 c1)∧w'.cell? ⟨p2,2,none⟩ = some (.bool t)∧w'.cell? ⟨p2,3,none⟩ = some (.slice a2 k2 c2)∧w'.cell? ⟨p3,0,none⟩ = some (.bool s')∧w'.cell? ⟨p3,1,none⟩ = some (.slice b1 k3 c3)∧w'.cell? ⟨p3,2,none⟩ = some (.bool t')∧w'.cell? ⟨p3,3,none⟩ = some (.slice b2 k4 c4)) (go_keep) (first
  | (go_at_call_of 61 (Value.slice a1 k1 c1); refine (D.Times_any s t' a1 b2 k1 k4 c1 c4 X Y' _ (HA.out.1.kept (HV.out _ (Kept.refl _).drew).2.2.2) (HA.out.2.2.2.1.kept (HV.out _ (Kept.refl _).drew).2.2.2) (by have:=HL.out.1; omega) (by have:=HL.out.1; omega)).mono ?_; rintro e w1 ⟨hk1,s1x,a1x,k1x,c1x,rfl,n1,l1⟩; have H1':Hid (D.NIs w1 s1x (.slice a1x k1x c1x) (X * Y')∧k1x≤50000):=⟨n1,by have:=HL.out.1; omega⟩; clear n1 l1; have K1:=(Kept.refl W).drew.trans hk1; obtain ⟨⟨da0',da1',da2',da3'⟩,da4',da5',da6',da7'⟩:=frow_two (HV.out _ K1).1 (HV.out _ K1).2.1)
  | (go_at_call_of 61 (Value.slice b1 k3 c3); refine (D.Times_any s' t b1 a2 k3 k2 c3 c2 X' Y _ (HA.out.2.2.1.kept (HV.out _ K1).2.2.2) (HA.out.2.1.kept (HV.out _ K1).2.2.2) (by have:=HL.out.1; omega) (by have:=HL.out.1; omega)).mono ?_; rintro e w2 ⟨hk2,s2x,a2x,k2x,c2x,rfl,n2,l2⟩; have H2':Hid (D.NIs w2 s2x (.slice a2x k2x c2x) (X' * Y)∧k2x≤50000):=⟨n2,by have:=HL.out.1; omega⟩; clear n2 l2; have K2:=K1.trans hk2; obtain ⟨⟨db0',db1',db2',db3'⟩,db4',db5',db6',db7'⟩:=frow_two (HV.out _ K2).1 (HV.out _ K2).2.1)
  | (go_at_call 60; refine (D.Plus_any s1x s2x a1x a2x k1x k2x c1x c2x _ _ _ (H1'.out.1.kept hk2) H2'.out.1 (by have:=H1'.out.2; omega) (by have:=H2'.out.2; omega)).mono ?_; rintro e w3 ⟨hk3,s3x,a3x,k3x,c3x,rfl,n3,l3⟩; have H3':Hid (D.NIs w3 s3x (.slice a3x k3x c3x) ((X * Y') + (X' * Y))∧k3x≤50001):=⟨n3,by have h1:=H1'.out.2; have h2:=H2'.out.2; omega⟩; clear n3 l3; have K3:=K2.trans hk3; obtain ⟨⟨dc0',dc1',dc2',dc3'⟩,dc4',dc5',dc6',dc7'⟩:=frow_two (HV.out _ K3).1 (HV.out _ K3).2.1)
  | (go_at_call 61; refine (D.Times_any t t' a2 b2 k2 k4 c2 c4 Y Y' _ (HA.out.2.1.kept (HV.out _ K3).2.2.2) (HA.out.2.2.2.1.kept (HV.out _ K3).2.2.2) (by have:=HL.out.1; omega) (by have:=HL.out.1; omega)).mono ?_; rintro e w4 ⟨hk4,s4x,a4x,k4x,c4x,rfl,n4,l4⟩; have H4':Hid (D.NIs w4 s4x (.slice a4x k4x c4x) (Y * Y')∧k4x≤50000):=⟨n4,by have:=HL.out.1; omega⟩; clear n4 l4; have K4:=K3.trans hk4; obtain ⟨⟨dd0',dd1',dd2',dd3'⟩,dd4',dd5',dd6',dd7'⟩:=frow_two (HV.out _ K4).1 (HV.out _ K4).2.1)
  | (go_at_call 93; refine (Lowest_any s3x s4x a3x a4x k3x c3x k4x c4x _ _ _ (H3'.out.1.kept hk4) H4'.out.1 (by have:=H3'.out.2; omega) (by have:=H4'.out.2; omega) HL.out.2).mono ?_; rintro e w5 ⟨hk5,v5,N5,D5,rfl,hF5,hL5⟩; obtain ⟨s5,a5,k5,c5,t5,a6,k6,c6,rfl,n5,n6,l5,l6⟩:=hF5; have H5:Hid (D.NIs w5 s5 (.slice a5 k5 c5) N5∧D.NIs w5 t5 (.slice a6 k6 c6) D5∧k5≤55000∧k6≤55000∧Low ((X * Y') + (X' * Y)) (Y * Y') N5 D5):=⟨n5,n6,by have:=H3'.out.2; omega,by have:=H4'.out.2; omega,hL5⟩; clear n5 n6 l5 l6 hL5; have K5:=K4.trans hk5; obtain ⟨⟨de0',de1',de2',de3'⟩,de4',de5',de6',de7'⟩:=frow_two (HV.out _ K5).1 (HV.out _ K5).2.1; have z4:=(HV.out _ K5).2.2.1; have e0:=z4.c0; have e1:=z4.c1; have e2:=z4.c2; have e3:=z4.c3; have y0:=z4.fz 0; have y1:=z4.fz 1; have y2:=z4.fz 2; have y3:=z4.fz 3))
 have HZ:=hid' (And.intro z4 (HV.out _ K5).2.2.2)
 clear q0' q1' q2' q3' q4' q5' q6' q7' da0' da1' da2' da3' da4' da5' da6' da7' db0' db1' db2' db3' db4' db5' db6' db7' dc0' dc1' dc2' dc3' dc4' dc5' dc6' dc7' dd0' dd1' dd2' dd3' dd4' dd5' dd6' dd7' de0' de1' de2' de3' de4' de5' de6' de7' hk1 hk2 hk3 hk4 hk5 K1 K2 K3 K4 K5 HV z4
 go_wp2
 refine bodyPost_ret (v:=.agg #[.bool s5,.slice a5 k5 c5,.bool t5,.slice a6 k6 c6]) (by simp [results,Tryz.results94,go_sem,e0,e1,e2,e3]) rfl ⟨Kept.put4 HZ.out.2 HP.out _ _ _ _,_,N5,D5,rfl,⟨s5,a5,k5,c5,t5,a6,k6,c6,rfl,nset4 H5.out.1 HZ.out.1,nset4 H5.out.2.1 HZ.out.1,H5.out.2.2.1,H5.out.2.2.2.1⟩,H5.out.2.2.2.2⟩
set_option maxRecDepth 100000 in
set_option maxHeartbeats 4000000 in
theorem FOver_big (s t s' t':Bool) (a1 a2 b1 b2:Option Addr) (k1 c1 k2 c2 k3 c3 k4 c4:Nat) (X Y X' Y':Int) (w:World) (h1:D.NIs w s (.slice a1 k1 c1) X) (h2:D.NIs w t (.slice a2 k2 c2) Y) (h3:D.NIs w s' (.slice b1 k3 c3) X') (h4:D.NIs w t' (.slice b2 k4 c4) Y') (hk:k1≤25000∧k2≤25000∧k3≤25000∧k4≤25000) (hy:Y * X' ≠ 0) :
  Calls Tryz.prog 56 #[.agg #[.bool s,.slice a1 k1 c1,.bool t,.slice a2 k2 c2],.agg #[.bool s',.slice b1 k3 c3,.bool t',.slice b2 k4 c4]] w fun e w' => Kept w w'∧∃ v N D,e = .returned v∧FIs w' v N D 55000 55000∧Low (X * Y') (Y * X') N D:=by
 have HA:Hid (D.NIs w s (.slice a1 k1 c1) X∧D.NIs w t (.slice a2 k2 c2) Y∧D.NIs w s' (.slice b1 k3 c3) X'∧D.NIs w t' (.slice b2 k4 c4) Y'∧True):=⟨h1,h2,h3,h4,trivial⟩
 have HL:Hid ((k1≤25000∧k2≤25000∧k3≤25000∧k4≤25000)∧Y * X' ≠ 0):=⟨hk,hy⟩
 clear h1 h2 h3 h4 hk hy
 go_enter Tryz.func56,Tryz.ntmps56
 go_upto_region 1 with fail
 have r2:=((FRow.alloc w (.bool s) (.slice a1 k1 c1) (.bool t) (.slice a2 k2 c2)).kept (((Kept.refl _).alloc (.cells #[.bool s',.slice b1 k3 c3,.bool t',.slice b2 k4 c4] 111)).alloc (.cells #[.bool false,.slice none 0 0,.bool false,.slice none 0 0] 111)))
 have r3:=((FRow.alloc (w.alloc (.cells #[.bool s,.slice a1 k1 c1,.bool t,.slice a2 k2 c2] 111)) (.bool s') (.slice b1 k3 c3) (.bool t') (.slice b2 k4 c4)).kept ((Kept.refl _).alloc (.cells #[.bool false,.slice none 0 0,.bool false,.slice none 0 0] 111)))
 have r4:=FRow.alloc ((w.alloc (.cells #[.bool s,.slice a1 k1 c1,.bool t,.slice a2 k2 c2] 111)).alloc (.cells #[.bool s',.slice b1 k3 c3,.bool t',.slice b2 k4 c4] 111)) (.bool false) (.slice none 0 0) (.bool false) (.slice none 0 0)
 have hK:=((((Kept.refl w).alloc (.cells #[.bool s,.slice a1 k1 c1,.bool t,.slice a2 k2 c2] 111)).alloc (.cells #[.bool s',.slice b1 k3 c3,.bool t',.slice b2 k4 c4] 111)).alloc (.cells #[.bool false,.slice none 0 0,.bool false,.slice none 0 0] 111))
 simp only [World.size_alloc] at r3 r4
 generalize ((w.alloc (.cells #[.bool s,.slice a1 k1 c1,.bool t,.slice a2 k2 c2] 111)).alloc (.cells #[.bool s',.slice b1 k3 c3,.bool t',.slice b2 k4 c4] 111)).alloc (.cells #[.bool false,.slice none 0 0,.bool false,.slice none 0 0] 111) = W at r2 r3 r4 hK ⊢
 obtain ⟨p4,hp4⟩:∃ p,p = w.heap.size + 1 + 1:=⟨_,rfl⟩
 rw [← hp4] at r4 ⊢
 obtain ⟨p3,hp3⟩:∃ p,p = w.heap.size + 1:=⟨_,rfl⟩
 rw [← hp3] at r3 ⊢
 obtain ⟨p2,hp2⟩:∃ p,p = w.heap.size:=⟨_,rfl⟩
 rw [← hp2] at r2 ⊢
 have HP:Hid (w.heap.size≤p4):=by show _≤_; omega
 have n42:¬ p4 = p2:=by omega
 have n43:¬ p4 = p3:=by omega
 have HV:Hid (∀ V,Kept W V→FRow V p2 (.bool s) (.slice a1 k1 c1) (.bool t) (.slice a2 k2 c2)∧FRow V p3 (.bool s') (.slice b1 k3 c3) (.bool t') (.slice b2 k4 c4)∧FRow V p4 (.bool false) (.slice none 0 0) (.bool false) (.slice none 0 0)∧Kept w V):=fun V hV => ⟨r2.kept hV,r3.kept hV,r4.kept hV,hK.trans hV⟩
 obtain ⟨⟨q0',q1',q2',q3'⟩,q4',q5',q6',q7'⟩:=frow_two r2 r3
 clear hp2 hp3 hp4 r2 r3 r4 hK
 go_region_held3 (fun w' => w'.cell? ⟨p2,0,none⟩ = some (.bool s)∧w'.cell? ⟨p2,1,none⟩ = some (.slice a1 k1 c1)∧w'.cell? ⟨p2,2,none⟩ = some (.bool t)∧w'.cell? ⟨p2,3,none⟩ = some (.slice a2 k2 c2)∧w'.cell? ⟨p3,0,none⟩ = some (.bool s')∧w'.cell? ⟨p3,1,none⟩ = some (.slice b1 k3 c3)∧w'.cell? ⟨p3,2,none⟩ = some (.bool t')∧w'.cell? ⟨p3,3,none⟩ = some (.slice b2 k4 c4)) (go_keep) (first
  | (go_at_call_of 61 (Value.slice a1 k1 c1); refine (D.Times_any s t' a1 b2 k1 k4 c1 c4 X Y' _ (HA.out.1.kept (HV.out _ (Kept.refl _).drew).2.2.2) (HA.out.2.2.2.1.kept (HV.out _ (Kept.refl _).drew).2.2.2) (by have:=HL.out.1; omega) (by have:=HL.out.1; omega)).mono ?_; rintro e w1 ⟨hk1,s1x,a1x,k1x,c1x,rfl,n1,l1⟩; have H1':Hid (D.NIs w1 s1x (.slice a1x k1x c1x) (X * Y')∧k1x≤50000):=⟨n1,by have:=HL.out.1; omega⟩; clear n1 l1; have K1:=(Kept.refl W).drew.trans hk1; obtain ⟨⟨da0',da1',da2',da3'⟩,da4',da5',da6',da7'⟩:=frow_two (HV.out _ K1).1 (HV.out _ K1).2.1)
  | (go_at_call 61; refine (D.Times_any t s' a2 b1 k2 k3 c2 c3 Y X' _ (HA.out.2.1.kept (HV.out _ K1).2.2.2) (HA.out.2.2.1.kept (HV.out _ K1).2.2.2) (by have:=HL.out.1; omega) (by have:=HL.out.1; omega)).mono ?_; rintro e w2 ⟨hk2,s2x,a2x,k2x,c2x,rfl,n2,l2⟩; have H2':Hid (D.NIs w2 s2x (.slice a2x k2x c2x) (Y * X')∧k2x≤50000):=⟨n2,by have:=HL.out.1; omega⟩; clear n2 l2; have K2:=K1.trans hk2; obtain ⟨⟨db0',db1',db2',db3'⟩,db4',db5',db6',db7'⟩:=frow_two (HV.out _ K2).1 (HV.out _ K2).2.1)
  | (go_at_call 93; refine (Lowest_any s1x s2x a1x a2x k1x c1x k2x c2x _ _ _ (H1'.out.1.kept hk2) H2'.out.1 (by have:=H1'.out.2; omega) (by have:=H2'.out.2; omega) HL.out.2).mono ?_; rintro e w3 ⟨hk3,v3,N5,D5,rfl,hF5,hL5⟩; obtain ⟨s5,a5,k5,c5,t5,a6,k6,c6,rfl,n5,n6,l5,l6⟩:=hF5; have H5:Hid (D.NIs w3 s5 (.slice a5 k5 c5) N5∧D.NIs w3 t5 (.slice a6 k6 c6) D5∧k5≤55000∧k6≤55000∧Low (X * Y') (Y * X') N5 D5):=⟨n5,n6,by have:=H1'.out.2; omega,by have:=H2'.out.2; omega,hL5⟩; clear n5 n6 l5 l6 hL5; have K3:=K2.trans hk3; obtain ⟨⟨dc0',dc1',dc2',dc3'⟩,dc4',dc5',dc6',dc7'⟩:=frow_two (HV.out _ K3).1 (HV.out _ K3).2.1; have z4:=(HV.out _ K3).2.2.1; have e0:=z4.c0; have e1:=z4.c1; have e2:=z4.c2; have e3:=z4.c3; have y0:=z4.fz 0; have y1:=z4.fz 1; have y2:=z4.fz 2; have y3:=z4.fz 3))
 have HZ:=hid' (And.intro z4 (HV.out _ K3).2.2.2)
 clear q0' q1' q2' q3' q4' q5' q6' q7' da0' da1' da2' da3' da4' da5' da6' da7' db0' db1' db2' db3' db4' db5' db6' db7' dc0' dc1' dc2' dc3' dc4' dc5' dc6' dc7' hk1 hk2 hk3 K1 K2 K3 HV z4
 go_wp2
 refine bodyPost_ret (v:=.agg #[.bool s5,.slice a5 k5 c5,.bool t5,.slice a6 k6 c6]) (by simp [results,Tryz.results56,go_sem,e0,e1,e2,e3]) rfl ⟨Kept.put4 HZ.out.2 HP.out _ _ _ _,_,N5,D5,rfl,⟨s5,a5,k5,c5,t5,a6,k6,c6,rfl,nset4 H5.out.1 HZ.out.1,nset4 H5.out.2.1 HZ.out.1,H5.out.2.2.1,H5.out.2.2.2.1⟩,H5.out.2.2.2.2⟩
set_option maxRecDepth 100000 in
set_option maxHeartbeats 4000000 in
theorem FMinus_big (s t:Bool) (a1 a2:Option Addr) (k1 c1 k2 c2:Nat) (X Y:Int) (w:World) (h1:D.NIs w s (.slice a1 k1 c1) X) (h2:D.NIs w t (.slice a2 k2 c2) Y) (hk:k1≤25000∧k2≤25000) :
  Calls Tryz.prog 54 #[.agg #[.bool s,.slice a1 k1 c1,.bool t,.slice a2 k2 c2]] w fun e w' => Kept w w'∧∃ v,e = .returned v∧FIs w' v (-X) Y k1 k2:=by
 have HA:Hid (D.NIs w s (.slice a1 k1 c1) X∧D.NIs w t (.slice a2 k2 c2) Y∧k1≤25000∧k2≤25000):=⟨h1,h2,hk⟩
 clear h1 h2 hk
 go_enter Tryz.func54,Tryz.ntmps54
 go_upto_region 1 with fail
 have r1:=((FRow.alloc w (.bool s) (.slice a1 k1 c1) (.bool t) (.slice a2 k2 c2)).kept ((Kept.refl _).alloc (.cells #[.bool false,.slice none 0 0,.bool false,.slice none 0 0] 111)))
 have r2:=FRow.alloc (w.alloc (.cells #[.bool s,.slice a1 k1 c1,.bool t,.slice a2 k2 c2] 111)) (.bool false) (.slice none 0 0) (.bool false) (.slice none 0 0)
 have hK:=((Kept.refl w).alloc (.cells #[.bool s,.slice a1 k1 c1,.bool t,.slice a2 k2 c2] 111)).alloc (.cells #[.bool false,.slice none 0 0,.bool false,.slice none 0 0] 111)
 simp only [World.size_alloc] at r2
 generalize (w.alloc (.cells #[.bool s,.slice a1 k1 c1,.bool t,.slice a2 k2 c2] 111)).alloc (.cells #[.bool false,.slice none 0 0,.bool false,.slice none 0 0] 111) = W at r1 r2 hK ⊢
 obtain ⟨p2,hp2⟩:∃ p,p = w.heap.size + 1:=⟨_,rfl⟩
 rw [← hp2] at r2 ⊢
 obtain ⟨p1,hp1⟩:∃ p,p = w.heap.size:=⟨_,rfl⟩
 rw [← hp1] at r1 ⊢
 have HP:Hid (w.heap.size≤p2):=by show _≤_; omega
 have n21:¬ p2 = p1:=by omega
 have HV:Hid (∀ V,Kept W V→FRow V p1 (.bool s) (.slice a1 k1 c1) (.bool t) (.slice a2 k2 c2)∧FRow V p2 (.bool false) (.slice none 0 0) (.bool false) (.slice none 0 0)∧Kept w V):=fun V hV => ⟨r1.kept hV,r2.kept hV,hK.trans hV⟩
 obtain ⟨q0,q1,q2,q3⟩:=frow_all r1
 clear hp1 hp2 r1 r2 hK
 go_region_held3 (fun w' => w'.cell? ⟨p1,0,none⟩ = some (.bool s)∧w'.cell? ⟨p1,1,none⟩ = some (.slice a1 k1 c1)∧w'.cell? ⟨p1,2,none⟩ = some (.bool t)∧w'.cell? ⟨p1,3,none⟩ = some (.slice a2 k2 c2)) (go_keep) (first
  | (go_at_call 91; refine (D.Minus_any s a1 k1 c1 X _ (HA.out.1.kept (HV.out _ (Kept.refl _).drew).2.2) (by have:=HA.out; omega)).mono ?_; rintro e w3 ⟨hk3,s3,a3,c3,rfl,n3⟩; have K3:=(Kept.refl W).drew.trans hk3; have H3:=hid' n3; clear n3; obtain ⟨g0,g1,g2,g3⟩:=frow_all (HV.out _ K3).1; have z4:=(HV.out _ K3).2.1; have e0:=z4.c0; have e1:=z4.c1; have e2:=z4.c2; have e3:=z4.c3; have y0:=z4.fz 0; have y1:=z4.fz 1; have y2:=z4.fz 2; have y3:=z4.fz 3))
 have HZ:=hid' (And.intro z4 (HV.out _ K3).2.2)
 clear q0 q1 q2 q3 g0 g1 g2 g3 hk3 K3 HV z4
 go_wp2
 refine bodyPost_ret (v:=.agg #[.bool s3,.slice a3 k1 c3,.bool t,.slice a2 k2 c2]) (by simp [results,Tryz.results54,go_sem,e0,e1,e2,e3]) rfl ⟨Kept.put4 HZ.out.2 HP.out _ _ _ _,_,rfl,⟨s3,a3,k1,c3,t,a2,k2,c2,rfl,nset4 H3.out HZ.out.1,nset4 (HA.out.2.1.kept HZ.out.2) HZ.out.1,Nat.le_refl _,Nat.le_refl _⟩⟩
end F
end Go.Proofs.YtdcfammglpebaaaGreat

namespace Go.Proofs.YtdcfammglpebaaaGreat
open Go.RowKit
namespace F
set_option maxRecDepth 100000 in
set_option maxHeartbeats 4000000 in
theorem FLess_big (s t s' t':Bool) (a1 a2 b1 b2:Option Addr) (k1 c1 k2 c2 k3 c3 k4 c4:Nat) (X Y X' Y':Int) (w:World) (h1:D.NIs w s (.slice a1 k1 c1) X) (h2:D.NIs w t (.slice a2 k2 c2) Y) (h3:D.NIs w s' (.slice b1 k3 c3) X') (h4:D.NIs w t' (.slice b2 k4 c4) Y') (hk:k1≤25000∧k2≤25000∧k3≤25000∧k4≤25000) (hy:Y * Y' ≠ 0) :
  Calls Tryz.prog 57 #[.agg #[.bool s,.slice a1 k1 c1,.bool t,.slice a2 k2 c2],.agg #[.bool s',.slice b1 k3 c3,.bool t',.slice b2 k4 c4]] w fun e w' => Kept w w'∧∃ v N D,e = .returned v∧FIs w' v N D 55000 55000∧Low (X * Y' + -X' * Y) (Y * Y') N D:=by
 have HA:Hid (D.NIs w s (.slice a1 k1 c1) X∧D.NIs w t (.slice a2 k2 c2) Y∧D.NIs w s' (.slice b1 k3 c3) X'∧D.NIs w t' (.slice b2 k4 c4) Y'∧True):=⟨h1,h2,h3,h4,trivial⟩
 have HL:Hid ((k1≤25000∧k2≤25000∧k3≤25000∧k4≤25000)∧Y * Y' ≠ 0):=⟨hk,hy⟩
 clear h1 h2 h3 h4 hk hy
 go_enter Tryz.func57,Tryz.ntmps57
 go_upto_region 1 with fail
 have r2:=((FRow.alloc w (.bool s) (.slice a1 k1 c1) (.bool t) (.slice a2 k2 c2)).kept (((Kept.refl _).alloc (.cells #[.bool s',.slice b1 k3 c3,.bool t',.slice b2 k4 c4] 111)).alloc (.cells #[.bool false,.slice none 0 0,.bool false,.slice none 0 0] 111)))
 have r3:=((FRow.alloc (w.alloc (.cells #[.bool s,.slice a1 k1 c1,.bool t,.slice a2 k2 c2] 111)) (.bool s') (.slice b1 k3 c3) (.bool t') (.slice b2 k4 c4)).kept ((Kept.refl _).alloc (.cells #[.bool false,.slice none 0 0,.bool false,.slice none 0 0] 111)))
 have r4:=FRow.alloc ((w.alloc (.cells #[.bool s,.slice a1 k1 c1,.bool t,.slice a2 k2 c2] 111)).alloc (.cells #[.bool s',.slice b1 k3 c3,.bool t',.slice b2 k4 c4] 111)) (.bool false) (.slice none 0 0) (.bool false) (.slice none 0 0)
 have hK:=(((Kept.refl w).alloc (.cells #[.bool s,.slice a1 k1 c1,.bool t,.slice a2 k2 c2] 111)).alloc (.cells #[.bool s',.slice b1 k3 c3,.bool t',.slice b2 k4 c4] 111)).alloc (.cells #[.bool false,.slice none 0 0,.bool false,.slice none 0 0] 111)
 simp only [World.size_alloc] at r3 r4
 generalize ((w.alloc (.cells #[.bool s,.slice a1 k1 c1,.bool t,.slice a2 k2 c2] 111)).alloc (.cells #[.bool s',.slice b1 k3 c3,.bool t',.slice b2 k4 c4] 111)).alloc (.cells #[.bool false,.slice none 0 0,.bool false,.slice none 0 0] 111) = W at r2 r3 r4 hK ⊢
 obtain ⟨p4,hp4⟩:∃ p,p = w.heap.size + 1 + 1:=⟨_,rfl⟩
 rw [← hp4] at r4 ⊢
 obtain ⟨p3,hp3⟩:∃ p,p = w.heap.size + 1:=⟨_,rfl⟩
 rw [← hp3] at r3 ⊢
 obtain ⟨p2,hp2⟩:∃ p,p = w.heap.size:=⟨_,rfl⟩
 rw [← hp2] at r2 ⊢
 have HP:Hid (w.heap.size≤p4):=by show _≤_; omega
 have n42:¬ p4 = p2:=by omega
 have n43:¬ p4 = p3:=by omega
 have HV:Hid (∀ V,Kept W V→FRow V p2 (.bool s) (.slice a1 k1 c1) (.bool t) (.slice a2 k2 c2)∧FRow V p3 (.bool s') (.slice b1 k3 c3) (.bool t') (.slice b2 k4 c4)∧FRow V p4 (.bool false) (.slice none 0 0) (.bool false) (.slice none 0 0)∧Kept w V):=fun V hV => ⟨r2.kept hV,r3.kept hV,r4.kept hV,hK.trans hV⟩
 obtain ⟨⟨q0',q1',q2',q3'⟩,q4',q5',q6',q7'⟩:=frow_two r2 r3
 clear hp2 hp3 hp4 r2 r3 r4 hK
 go_region_held3 (fun w' => w'.cell? ⟨p2,0,none⟩ = some (.bool s)∧w'.cell? ⟨p2,1,none⟩ = some (.slice a1 k1 c1)∧w'.cell? ⟨p2,2,none⟩ = some (.bool t)∧w'.cell? ⟨p2,3,none⟩ = some (.slice a2 k2 c2)∧w'.cell? ⟨p3,0,none⟩ = some (.bool s')∧w'.cell? ⟨p3,1,none⟩ = some (.slice b1 k3 c3)∧w'.cell? ⟨p3,2,none⟩ = some (.bool t')∧w'.cell? ⟨p3,3,none⟩ = some (.slice b2 k4 c4)) (go_keep) (first
  | (go_at_call 54; refine (FMinus_big s' t' b1 b2 k3 c3 k4 c4 X' Y' _ (HA.out.2.2.1.kept (HV.out _ (Kept.refl _).drew).2.2.2) (HA.out.2.2.2.1.kept (HV.out _ (Kept.refl _).drew).2.2.2) (by have:=HL.out.1; omega)).mono ?_; rintro e w1 ⟨hk1,v1,rfl,s3,a3,k3',c3',t3,a4,k4',c4',rfl,n3,n4,l3,l4⟩; have K1:=(Kept.refl W).drew.trans hk1; have H1':Hid (D.NIs w1 s3 (.slice a3 k3' c3') (-X')∧D.NIs w1 t3 (.slice a4 k4' c4') Y'∧k3'≤25000∧k4'≤25000):=⟨n3,n4,by have:=HL.out.1; omega,by have:=HL.out.1; omega⟩; clear n3 n4 l3 l4; obtain ⟨⟨d0,d1,d2,d3⟩,d4,d5,d6,d7⟩:=frow_two (HV.out _ K1).1 (HV.out _ K1).2.1)
  | (go_at_call 94; refine (FPlus_big s t s3 t3 a1 a2 a3 a4 k1 c1 k2 c2 k3' c3' k4' c4' X Y (-X') Y' _ (HA.out.1.kept (HV.out _ K1).2.2.2) (HA.out.2.1.kept (HV.out _ K1).2.2.2) H1'.out.1 H1'.out.2.1 (by have h1:=HL.out.1; have h2:=H1'.out.2.2; omega) HL.out.2).mono ?_; rintro e w2 ⟨hk2,v2,N5,D5,rfl,⟨s5,a5,k5,c5,t5,a6,k6,c6,rfl,n5,n6,l5,l6⟩,hL5⟩; have K2:=K1.trans hk2; have H5:=hid' (And.intro n5 (And.intro n6 (And.intro l5 (And.intro l6 hL5)))); clear n5 n6 l5 l6 hL5; obtain ⟨⟨g0,g1,g2,g3⟩,g4,g5,g6,g7⟩:=frow_two (HV.out _ K2).1 (HV.out _ K2).2.1; have z4:=(HV.out _ K2).2.2.1; have e0:=z4.c0; have e1:=z4.c1; have e2:=z4.c2; have e3:=z4.c3; have y0:=z4.fz 0; have y1:=z4.fz 1; have y2:=z4.fz 2; have y3:=z4.fz 3))
 have HZ:=hid' (And.intro z4 (HV.out _ K2).2.2.2)
 clear q0' q1' q2' q3' q4' q5' q6' q7' d0 d1 d2 d3 d4 d5 d6 d7 g0 g1 g2 g3 g4 g5 g6 g7 hk1 hk2 K1 K2 HV z4
 go_wp2
 refine bodyPost_ret (v:=.agg #[.bool s5,.slice a5 k5 c5,.bool t5,.slice a6 k6 c6]) (by simp [results,Tryz.results57,go_sem,e0,e1,e2,e3]) rfl ⟨Kept.put4 HZ.out.2 HP.out _ _ _ _,_,N5,D5,rfl,⟨s5,a5,k5,c5,t5,a6,k6,c6,rfl,nset4 H5.out.1 HZ.out.1,nset4 H5.out.2.1 HZ.out.1,H5.out.2.2.1,H5.out.2.2.2.1⟩,H5.out.2.2.2.2⟩
set_option maxHeartbeats 4000000 in
theorem FSign_big (s t:Bool) (a1 a2:Option Addr) (k1 c1 k2 c2:Nat) (X:Int) (w:World) (h1:D.NIs w s (.slice a1 k1 c1) X) (hk:k1≤60000) :
  Calls Tryz.prog 53 #[.agg #[.bool s,.slice a1 k1 c1,.bool t,.slice a2 k2 c2]] w fun e w' => Kept w w'∧e = .returned (.int .i64 (isgn X 0)):=by
 have HA:Hid (D.NIs w s (.slice a1 k1 c1) X∧k1≤60000):=⟨h1,hk⟩
 clear h1 hk
 go_enter Tryz.func53,Tryz.ntmps53
 go_wp2_with fail
 refine (D.Sign_any s a1 k1 c1 X _ (HA.out.1.kept ((Kept.refl w).alloc _)) (by have:=HA.out.2; omega)).mono ?_
 rintro e w1 ⟨rfl,hk1⟩
 have HK:=hid' (((Kept.refl w).alloc _).trans hk1)
 clear hk1
 go_wp2
 go_ret
 exact ⟨HK.out,rfl⟩
end F
end Go.Proofs.YtdcfammglpebaaaGreat
