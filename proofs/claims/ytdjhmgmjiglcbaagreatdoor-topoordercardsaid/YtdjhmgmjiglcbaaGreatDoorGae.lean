/- Lemmas. -/
import Derived.Test.YtdjhmgmjiglcbaaGreatDoorGac
import Derived.Deep.RegionHeld3
set_option maxHeartbeats 1000000
namespace Go.Proofs.YtdjhmgmjiglcbaaGreatDoor
open Go.RowKit
def Fin (B:Nat)(w:World)(s:Bool)(v:Value)(c:Int)(z:Int):Prop :=
 (c=0/\∃l,New B w v l/\M.Right s l/\M.int s l=z)∨(c=13/\s=false/\v=.slice none 0 0/\M.W72<=z.natAbs)
def AnsIs (B:Nat)(w:World)(e:Ending)(z:Int):Prop :=
 ∃(s:Bool) (ao:Option Addr) (n cap:Nat) (c:Int),e=.returned (.tuple #[.agg #[.bool s,.slice ao n cap],.int .i64 c])/\Fin B w s (.slice ao n cap) c z
theorem answer_any {B:Nat}(neg:Bool)(v:Value)(l:List Nat)(w:World)(h:New B w v l)(ht:M.Tr l)(hl:l.length<=1000000) :
  Calls Tryz.prog 306 #[.bool neg,v] w fun e w'=>Kept w w'/\AnsIs B w' e (M.int neg l):=by
 obtain⟨ao,cap,rfl⟩:=h.shape
 have e1:M.int (neg&&decide (0<l.length)) l=M.int neg l:=by
  by_cases h0:0<l.length
  ·simp[h0]
  ·have:l=[]:=List.length_eq_zero_iff.1 (by omega)
   subst this;cases neg <;> simp[M.int,M.val]
 have e2:l=[]->(neg&&decide (0<l.length))=false:=by intro h;simp[h]
 by_cases hw:l.length<=72
 ·refine(answer_fits neg ao l.length cap w hw).mono ?_
  rintro e w' ⟨rfl,hk⟩
  exact⟨hk,_,_,_,_,_,rfl,.inl ⟨rfl,l,h.kept hk,⟨h.1,ht,hw,e2⟩,e1⟩⟩
 ·refine(answer_wide neg ao l.length cap w (by omega) hl).mono ?_
  rintro e w' ⟨rfl,hk⟩
  exact⟨hk,_,_,_,_,_,rfl,.inr ⟨rfl,rfl,rfl,by rw[M.natAbs_int];exact M.W72_le ht (by omega)⟩⟩
theorem box_kept {w w1:World}{c0 c1:Value}{t:TypeId}(h:Kept (w.alloc (.cells #[c0,c1] t)) w1):w1.cell? ⟨w.heap.size,0,none⟩=some c0/\w1.cell? ⟨w.heap.size,1,none⟩=some c1:=by
 constructor <;> (rw[h.cells _ _ (by simp)];simp)
theorem Fin.other {B:Nat}{w:World}{s:Bool}{v:Value}{c z:Int}(h:Fin B w s v c z){p:Addr}(hp:p.block<B)(u:Value):Fin B (w.setCell p u) s v c z:=by
 rcases h with ⟨h1,l,h2,h3⟩|h
 ·exact .inl ⟨h1,l,h2.other hp u,h3⟩
 ·exact .inr h
theorem Fin.mono {B B':Nat}{w:World}{s:Bool}{v:Value}{c z:Int}(h:Fin B w s v c z)(hB:B'<=B):Fin B' w s v c z:=by
 rcases h with ⟨h1,l,h2,h3⟩|h
 ·exact .inl ⟨h1,l,h2.mono hB,h3⟩
 ·exact .inr h
theorem Fin.kept {B:Nat}{w w':World}{s:Bool}{v:Value}{c z:Int}(h:Fin B w s v c z)(k:Kept w w'):Fin B w' s v c z:=by
 rcases h with ⟨h1,l,h2,h3⟩|h
 ·exact .inl ⟨h1,l,h2.kept k,h3⟩
 ·exact .inr h
theorem box_kept2 {w w1:World}{c0 c1 d0 d1:Value}{t u:TypeId}(h:Kept ((w.alloc (.cells #[c0,c1] t)).alloc (.cells #[d0,d1] u)) w1) :
  w1.cell? ⟨w.heap.size,0,none⟩=some c0/\w1.cell? ⟨w.heap.size,1,none⟩=some c1/\w1.cell? ⟨w.heap.size+1,0,none⟩=some d0/\w1.cell? ⟨w.heap.size+1,1,none⟩=some d1:=by
 refine⟨?_,?_,?_,?_⟩ <;> (rw[h.cells _ _ (by simp <;> omega)];simp)
theorem mul_any (m n:Bool)(va vb:Value)(a b:List Nat)(w:World)(ha:Sl w va a)(hb:Sl w vb b)(hra:R m a)(hrb:R n b) :
  Calls Tryz.prog 287 #[.agg #[.bool m,va],.agg #[.bool n,vb]] w fun e w'=>Kept w w'/\AnsIs w.heap.size w' e (M.int m a*M.int n b):=by
 obtain⟨z,hz⟩:∃z,z=M.int m a*M.int n b:=⟨_,rfl⟩
 rw[<-hz]
 have HZ:Hid (z=M.int m a*M.int n b):=hz
 have HR:Hid (R m a/\R n b):=⟨hra,hrb⟩
 have hla:=hra.1
 have hlb:=hrb.1
 clear hz hra hrb
 have HA:Hid (Sl w va a):=ha
 have HB:Hid (Sl w vb b):=hb
 obtain⟨bda,aoa,capa,rfl,_⟩:=ha
 obtain⟨bdb,aob,capb,rfl,_⟩:=hb
 have K3:∀x y t,Kept w (((w.alloc x).alloc y).alloc t):=fun x y t=>(((Kept.refl w).alloc x).alloc y).alloc t
 by_cases hw:72<a.length+b.length-1
 ·have HW:Hid (M.W72<=z.natAbs):=by
   show M.W72<=z.natAbs
   rw[HZ.out,Int.natAbs_mul,M.natAbs_int,M.natAbs_int]
   exact M.mul_wide HR.out.1.tr HR.out.2.tr hw hla hlb
  go_enter Tryz.func287,Tryz.ntmps287
  go_wp2_with fail
  refine(wrong_no m n _ _ a b _ (HA.out.kept (K3 _ _ _)) (HB.out.kept (K3 _ _ _)) HR.out.1 HR.out.2).mono ?_
  rintro e w1 ⟨rfl,hk⟩
  have hc:=hk.cells
  have hf:=hk.frozens
  have HK1:Hid (Kept w w1):=(K3 _ _ _).trans hk
  clear hk
  go_wp2
  exact bodyPost_ret (v:=.tuple #[.agg #[.bool false,.slice none 0 0],.int .i64 13]) (by simp[results,Tryz.results287,go_sem,hc]) rfl ⟨(HK1.out.setCell (by simp;omega) _).setCell (by simp;omega) _,_,_,_,_,_,rfl,.inr ⟨rfl,rfl,rfl,HW.out⟩⟩
 ·go_enter Tryz.func287,Tryz.ntmps287
  go_wp2_with fail
  refine(wrong_no m n _ _ a b _ (HA.out.kept (K3 _ _ _)) (HB.out.kept (K3 _ _ _)) HR.out.1 HR.out.2).mono ?_
  rintro e w1 ⟨rfl,hk⟩
  have HK1:Hid (Kept w w1):=(K3 _ _ _).trans hk
  have HKa:Hid (Kept (((w.alloc (.cells #[.bool m,.slice aoa a.length capa] 211)).alloc (.cells #[.bool n,.slice aob b.length capb] 211)).alloc (.cells #[.bool false,.slice none 0 0] 211)) w1):=hk
  have hsz:=hk.size
  simp at hsz
  obtain⟨hb0,hb1,hb2,hb3⟩:=box_kept2 (((Kept.refl _).alloc _).trans hk)
  clear hk
  have hw':(a.length:Int)+b.length-1<=72:=by omega
  have hne:¬(w.heap.size+1+1=w.heap.size):=by omega
  go_wp2_with fail
  go_region_held3 (fun w'=>w'.cell? ⟨w.heap.size,0,none⟩=some (.bool m)/\w'.cell? ⟨w.heap.size,1,none⟩=some (.slice aoa a.length capa)/\w'.cell? ⟨w.heap.size+1,0,none⟩=some (.bool n)/\w'.cell? ⟨w.heap.size+1,1,none⟩=some (.slice aob b.length capb)) (go_keep) (first
   |(go_at_call 307;refine(product_any _ _ a b _ (HA.out.kept HK1.out.drew) (HB.out.kept HK1.out.drew) (by omega) (by omega)).mono ?_;rintro e w2 ⟨hk,v',l',rfl,hn,ht,hv,hl⟩;obtain⟨hb4,hb5,hb6,hb7⟩:=box_kept2 ((((Kept.refl _).alloc _).trans HKa.out).drew.trans hk))
   |(go_at_call 306;refine(answer_any (m != n) v' l' _ hn ht (by omega)).mono ?_;rintro e w3 ⟨hk2,s,ao,nn,cap,c,rfl,hF⟩;obtain⟨hb8,hb9,hba,hbb⟩:=box_kept2 ((((Kept.refl _).alloc _).trans HKa.out).drew.trans (hk.trans hk2));have hc:=(HKa.out.drew.trans (hk.trans hk2)).cells;have hf2:=(HKa.out.drew.trans (hk.trans hk2)).frozens))
  have HK:Hid (Kept w w3):=(HK1.out.drew.trans hk).trans hk2
  have HF:Hid (Fin (w.heap.size+1+1+1) w3 s (.slice ao nn cap) c z):=by
   show Fin _ _ _ _ _ _
   rw[M.int_mul hv,<-HZ.out]at hF
   exact hF.mono (by simpa using hsz)
  clear hk hk2 hn ht hv hl hF K3 hb0 hb1 hb2 hb3 hb4 hb5 hb6 hb7 hb8 hb9 hba hbb HKa
  go_wp2
  exact bodyPost_ret (v:=.tuple #[.agg #[.bool s,.slice ao nn cap],.int .i64 c]) (by simp[results,Tryz.results287,go_sem,hc]) rfl ⟨(HK.out.setCell (by simp;omega) _).setCell (by simp;omega) _,_,_,_,_,_,rfl,((HF.out.other (by simp) _).other (by simp) _).mono (by omega)⟩
def isgn (x y:Int):Int:=if x<y then -1 else if x=y then 0 else 1
theorem isgn_of {m n:Nat}{x y:Int}(h:m<n↔x<y)(h2:m=n↔x=y):sgn m n=isgn x y:=by unfold sgn isgn;simp only[h,h2]
theorem isgn_pos (a b:List Nat):sgn (M.val a) (M.val b)=isgn (M.int false a) (M.int false b):=by
 have e1:M.int false a=(M.val a:Int):=by simp[M.int]
 have e2:M.int false b=(M.val b:Int):=by simp[M.int]
 exact isgn_of (by rw[e1,e2];omega) (by rw[e1,e2];omega)
theorem isgn_neg (a b:List Nat):sgn (M.val b) (M.val a)=isgn (M.int true a) (M.int true b):=by
 have e1:M.int true a=-(M.val a:Int):=by simp[M.int]
 have e2:M.int true b=-(M.val b:Int):=by simp[M.int]
 exact isgn_of (by rw[e1,e2];omega) (by rw[e1,e2];omega)
theorem int_neg_lt {a:List Nat}(h:R true a):M.int true a<0:=by
 have h0:a≠[]:=fun e=>by have:=h.2.1 (by simp[e]);simp at this
 have:=M.val_pos h.tr h0
 simp[M.int];omega
theorem int_pos_ge (a:List Nat):0<=M.int false a:=by simp[M.int]
theorem icmp_any (m n:Bool)(va vb:Value)(a b:List Nat)(w:World)(ha:Sl w va a)(hb:Sl w vb b)(hra:R m a)(hrb:R n b) :
  Calls Tryz.prog 246 #[.agg #[.bool m,va],.agg #[.bool n,vb]] w fun e w'=>e=.returned (.tuple #[.int .i64 (isgn (M.int m a) (M.int n b)),.int .i64 0])/\Kept w w':=by
 have HR:Hid (R m a/\R n b):=⟨hra,hrb⟩
 clear hra hrb
 have K2:∀x y,Kept w ((w.alloc x).alloc y):=fun x y=>((Kept.refl w).alloc x).alloc y
 cases m <;> cases n
 ·rw[<-isgn_pos]
  obtain⟨r,hr⟩:∃r,r=sgn (M.val a) (M.val b):=⟨_,rfl⟩
  rw[<-hr]
  have HRR:Hid (r=sgn (M.val a) (M.val b)):=hr
  clear hr
  go_enter Tryz.func246,Tryz.ntmps246
  go_wp2_with fail
  refine(wrong_no _ _ va vb a b _ (ha.kept (K2 _ _)) (hb.kept (K2 _ _)) HR.out.1 HR.out.2).mono ?_
  rintro e w1 ⟨rfl,hk⟩
  obtain⟨hb0,hb1,hb2,hb3⟩:=box_kept2 hk
  have HK1:Hid (Kept w w1):=(K2 _ _).trans hk
  clear hk K2
  go_wp2_with fail
  refine(compare_any va vb a b w1 (ha.kept HK1.out) (hb.kept HK1.out) (by have:=HR.out.1.1;omega) (by have:=HR.out.2.1;omega) HR.out.1.tr HR.out.2.tr).mono ?_
  rintro e w2 ⟨rfl,nq,rfl⟩
  rw[<-HRR.out]
  go_wp2
  go_ret2
  exact⟨rfl,HK1.out.drewN nq⟩
 ·have e:isgn (M.int false a) (M.int true b)=1:=by
   have h1:=int_pos_ge a
   have h2:=int_neg_lt HR.out.2
   unfold isgn;rw[if_neg (by omega),if_neg (by omega)]
  rw[e]
  clear e
  go_enter Tryz.func246,Tryz.ntmps246
  go_wp2_with fail
  refine(wrong_no _ _ va vb a b _ (ha.kept (K2 _ _)) (hb.kept (K2 _ _)) HR.out.1 HR.out.2).mono ?_
  rintro e w1 ⟨rfl,hk⟩
  obtain⟨hb0,hb1,hb2,hb3⟩:=box_kept2 hk
  have HK1:Hid (Kept w w1):=(K2 _ _).trans hk
  clear hk K2
  go_wp2
  go_ret2
  exact⟨rfl,HK1.out⟩
 ·have e:isgn (M.int true a) (M.int false b)=-1:=by
   have h1:=int_pos_ge b
   have h2:=int_neg_lt HR.out.1
   unfold isgn;rw[if_pos (by omega)]
  rw[e]
  clear e
  go_enter Tryz.func246,Tryz.ntmps246
  go_wp2_with fail
  refine(wrong_no _ _ va vb a b _ (ha.kept (K2 _ _)) (hb.kept (K2 _ _)) HR.out.1 HR.out.2).mono ?_
  rintro e w1 ⟨rfl,hk⟩
  obtain⟨hb0,hb1,hb2,hb3⟩:=box_kept2 hk
  have HK1:Hid (Kept w w1):=(K2 _ _).trans hk
  clear hk K2
  go_wp2
  go_ret2
  exact⟨rfl,HK1.out⟩
 ·rw[<-isgn_neg]
  obtain⟨r,hr⟩:∃r,r=sgn (M.val b) (M.val a):=⟨_,rfl⟩
  rw[<-hr]
  have HRR:Hid (r=sgn (M.val b) (M.val a)):=hr
  clear hr
  go_enter Tryz.func246,Tryz.ntmps246
  go_wp2_with fail
  refine(wrong_no _ _ va vb a b _ (ha.kept (K2 _ _)) (hb.kept (K2 _ _)) HR.out.1 HR.out.2).mono ?_
  rintro e w1 ⟨rfl,hk⟩
  obtain⟨hb0,hb1,hb2,hb3⟩:=box_kept2 hk
  have HK1:Hid (Kept w w1):=(K2 _ _).trans hk
  clear hk K2
  go_wp2_with fail
  refine(compare_any vb va b a w1 (hb.kept HK1.out) (ha.kept HK1.out) (by have:=HR.out.2.1;omega) (by have:=HR.out.1.1;omega) HR.out.2.tr HR.out.1.tr).mono ?_
  rintro e w2 ⟨rfl,nq,rfl⟩
  rw[<-HRR.out]
  go_wp2
  go_ret2
  exact⟨rfl,HK1.out.drewN nq⟩
end Go.Proofs.YtdjhmgmjiglcbaaGreatDoor
