/- Lemmas. -/
import Derived.Test.YtdjhmgmjiglcbaaGreatDoorGam
import Derived.Test.YtdjhmgmjiglcbaaGreatDoorGae
import Derived.Test.YtdjhmgmjiglcbaaGreatDoorGaf
import Derived.Test.YtdjhmgmjiglcbaaGreatDoorGak
import Derived.Test.YtdjhmgmjiglcbaaGreatDoorGaj
import Derived.Deep.RegionWith
import Derived.Test.YtdjhmgmjiglcbaaGreatDoorGab
import Derived.Deep.RegionHeld3
set_option maxHeartbeats 4000000
namespace Go.Proofs.YtdjhmgmjiglcbaaGreatDoor
end Go.Proofs.YtdjhmgmjiglcbaaGreatDoor
namespace Go.Proofs.YtdjhmgmjiglcbaaGreatDoor
open Go.RowKit
namespace F
theorem sign_nat {m:Bool}{l:List Nat}(h:R m l):isgn (M.int m l) 0=if m then -1 else if 0<l.length then 1 else 0:=by
 unfold isgn
 cases m with
 |true=>
  have:=int_neg_lt h
  rw[if_pos this];rfl
 |false=>
  have h1:M.int false l=(M.val l:Int):=by simp[M.int]
  rw[h1]
  by_cases h0:0<l.length
  ·have h2:=M.val_pos h.tr (fun e=>by rw[e]at h0;simp at h0)
   rw[if_neg (by omega),if_neg (by omega)]
   simp[h0]
  ·have h2:l=[]:=List.length_eq_zero_iff.1 (by omega)
   rw[h2];simp[M.val]
theorem sign_any (m:Bool)(ao:Option Addr)(k cap:Nat)(l:List Nat)(w:World)(h:Sl w (.slice ao k cap) l)(hr:R m l) :
  Calls Tryz.prog 224 #[.agg #[.bool m,.slice ao k cap]] w fun e w'=>e=.returned (.int .i64 (isgn (M.int m l) 0))/\Kept w w':=by
 have e1:=h.len
 have HV:=sign_nat hr
 have hk:k<=72:=by rw[e1];exact hr.1
 have HS:Hid (isgn (M.int m l) 0=if m then -1 else if 0<k then 1 else 0):=by rw[e1];exact HV
 clear HV e1 h hr
 cases m with
 |true=>
  go_enter Tryz.func224,Tryz.ntmps224
  go_wp2
  go_ret
  exact⟨ret_i64 (by rw[HS.out];rfl),(Kept.refl w).alloc _⟩
 |false=>
  by_cases h0:0<k
  ·have h1:(0:Int)<(k:Int):=by omega
   go_enter Tryz.func224,Tryz.ntmps224
   go_wp2
   go_ret
   exact⟨ret_i64 (by rw[HS.out];simp[h0]),(Kept.refl w).alloc _⟩
  ·obtain rfl:k=0:=by omega
   go_enter Tryz.func224,Tryz.ntmps224
   go_wp2
   go_ret
   exact⟨ret_i64 (by rw[HS.out];simp),(Kept.refl w).alloc _⟩
def IntIs (B:Nat)(w:World)(e:Ending)(z:Int):Prop:=∃s ao k cap l,e=.returned (.agg #[.bool s,.slice ao k cap])/\New B w (.slice ao k cap) l/\M.Right s l/\M.int s l=z
theorem gcd_r (m n:Bool)(va vb:Value)(a b:List Nat)(w:World)(ha:Sl w va a)(hb:Sl w vb b)(hra:R m a)(hrb:R n b) :
  Calls Tryz.prog 262 #[.agg #[.bool m,va],.agg #[.bool n,vb]] w fun e w'=>Kept w w'/\IntIs w.heap.size w' e ((Nat.gcd (M.val a) (M.val b):Nat):Int):=by
 have HR:Hid (R m a/\R n b):=⟨hra,hrb⟩
 have HA:Hid (Sl w va a/\Sl w vb b):=⟨ha,hb⟩
 clear hra hrb ha hb
 have K3:∀x y t,Kept w (((w.alloc x).alloc y).alloc t):=fun x y t=>(((Kept.refl w).alloc x).alloc y).alloc t
 go_enter Tryz.func262,Tryz.ntmps262
 go_wp2_with fail
 refine(gcd_any m n va vb a b _ (HA.out.1.kept (K3 _ _ _)) (HA.out.2.kept (K3 _ _ _)) HR.out.1 HR.out.2).mono ?_
 rintro e w1 ⟨hk,ao,k,cap,l,rfl,hn,hr,hv⟩
 obtain⟨_,_,_,_,hR0,hR1⟩:=box_kept3 hk
 have hsz:=hk.size
 simp at hsz
 have hsz1:w.heap.size+1+1<w1.heap.size:=by omega
 have hf:∀o,w1.frozen? ⟨w.heap.size+1+1,o,none⟩=false:=fun o=>by rw[hk.frozens (w.heap.size+1+1) o (by simp)];exact World.frozen?_alloc_at _ _ _ _ (by simp)
 have HF:Hid (Kept w w1/\New (w.heap.size+1+1+1) w1 (.slice ao k cap) l/\M.Right false l/\M.val l=Nat.gcd (M.val a) (M.val b)):=⟨(K3 _ _ _).trans hk,hn.mono (by simp),hr,hv⟩
 clear hk hn hr hv K3
 go_wp2
 refine bodyPost_ret (v:=.agg #[.bool false,.slice ao k cap]) (by simp[results,Tryz.results262,go_sem,hR0,hR1,hsz1]) rfl ⟨?_,false,ao,k,cap,l,rfl,?_,HF.out.2.2.1,by simp[M.int,HF.out.2.2.2]⟩
 ·exact((HF.out.1.setCell (by show w.heap.size<=w.heap.size+1+1;omega) _).setCell (by show w.heap.size<=w.heap.size+1+1;omega) _).alloc _
 ·exact(((HF.out.2.1.other (by show w.heap.size+1+1<w.heap.size+1+1+1;omega) _).other (by show w.heap.size+1+1<w.heap.size+1+1+1;omega) _).kept ((Kept.refl _).alloc _)).mono (by omega)
theorem exact_r (m n:Bool)(va vb:Value)(a b:List Nat)(z:Int)(w:World)(ha:Sl w va a)(hb:Sl w vb b)(hra:R m a)(hrb:R n b)(hb0:0<b.length)(hz:z*M.int n b=M.int m a) :
  Calls Tryz.prog 285 #[.agg #[.bool m,va],.agg #[.bool n,vb]] w fun e w'=>Kept w w'/\IntIs w.heap.size w' e z:=by
 have HR:Hid (R m a/\R n b/\0<b.length):=⟨hra,hrb,hb0⟩
 have HA:Hid (Sl w va a/\Sl w vb b):=⟨ha,hb⟩
 have hvb:=M.val_pos hrb.tr (fun e=>by rw[e]at hb0;simp at hb0)
 have HD:Hid (M.val b ∣ M.val a/\∀x:Int,x*M.int n b=M.int m a->x=z):=by
  refine⟨?_,fun x hx=>?_⟩
  ·rw[<-M.natAbs_int m a,<-hz,Int.natAbs_mul,M.natAbs_int];exact Nat.dvd_mul_left _ _
  ·exact Int.eq_of_mul_eq_mul_right (by intro e;rw[<-M.natAbs_int n b,e]at hvb;simp at hvb) (hx.trans hz.symm)
 clear hra hrb ha hb hb0 hz hvb
 have K3:∀x y t,Kept w (((w.alloc x).alloc y).alloc t):=fun x y t=>(((Kept.refl w).alloc x).alloc y).alloc t
 go_enter Tryz.func285,Tryz.ntmps285
 go_wp2_with fail
 refine(exact_any m n va vb a b _ (HA.out.1.kept (K3 _ _ _)) (HA.out.2.kept (K3 _ _ _)) HR.out.1 HR.out.2.1 HR.out.2.2).mono ?_
 rintro e w1 ⟨hk,hE⟩
 obtain⟨_,s,ao,k,cap,l,rfl,hn,hr,hi⟩:=hE.resolve_right (fun h=>h.1 HD.out.1)
 obtain⟨_,_,_,_,hR0,hR1⟩:=box_kept3 hk
 have hsz:=hk.size
 simp at hsz
 have hsz1:w.heap.size+1+1<w1.heap.size:=by omega
 have hf:∀o,w1.frozen? ⟨w.heap.size+1+1,o,none⟩=false:=fun o=>by rw[hk.frozens (w.heap.size+1+1) o (by simp)];exact World.frozen?_alloc_at _ _ _ _ (by simp)
 have HF:Hid (Kept w w1/\New (w.heap.size+1+1+1) w1 (.slice ao k cap) l/\M.Right s l/\M.int s l=z):=⟨(K3 _ _ _).trans hk,hn.mono (by simp),hr,HD.out.2 _ hi⟩
 clear hk hn hr hi K3 hE
 go_wp2
 refine bodyPost_ret (v:=.agg #[.bool s,.slice ao k cap]) (by simp[results,Tryz.results285,go_sem,hR0,hR1,hsz1]) rfl ⟨?_,s,ao,k,cap,l,rfl,?_,HF.out.2.2.1,HF.out.2.2.2⟩
 ·exact((HF.out.1.setCell (by show w.heap.size<=w.heap.size+1+1;omega) _).setCell (by show w.heap.size<=w.heap.size+1+1;omega) _).alloc _
 ·exact(((HF.out.2.1.other (by show w.heap.size+1+1<w.heap.size+1+1+1;omega) _).other (by show w.heap.size+1+1<w.heap.size+1+1+1;omega) _).kept ((Kept.refl _).alloc _)).mono (by omega)
theorem signed_r (neg m:Bool)(ao:Option Addr)(k cap:Nat)(w:World) :
  Calls Tryz.prog 247 #[.bool neg,.agg #[.bool m,.slice ao k cap]] w fun e w'=>e=.returned (.agg #[.bool (neg&&decide (0<k)),.slice ao k cap])/\Kept w w':=by
 cases neg
 ·go_enter Tryz.func247,Tryz.ntmps247
  go_wp2
  exact bodyPost_ret (v:=.agg #[.bool false,.slice ao k cap]) (by simp[results,Tryz.results247,go_sem]) rfl ⟨rfl,((Kept.refl w).alloc _).alloc _⟩
 ·go_enter Tryz.func247,Tryz.ntmps247
  go_wp2
  exact bodyPost_ret (v:=.agg #[.bool (decide (0<k)),.slice ao k cap]) (by simp[results,Tryz.results247,go_sem]) rfl ⟨by simp,((Kept.refl w).alloc _).alloc _⟩
end F
end Go.Proofs.YtdjhmgmjiglcbaaGreatDoor
namespace Go.Proofs.YtdjhmgmjiglcbaaGreatDoor
open Go.RowKit
namespace F
theorem m_tdiv {m n:Bool}{a b q r:List Nat}(h:M.val a=M.val q*M.val b+M.val r)(hlt:M.val r<M.val b):M.int (m != n) q=Int.tdiv (M.int m a) (M.int n b)/\M.int m r=Int.tmod (M.int m a) (M.int n b):=by
 have hq:M.val a/M.val b=M.val q:=by rw[h,Nat.mul_comm,Nat.mul_add_div (by omega),Nat.div_eq_of_lt hlt];rfl
 have hr:M.val a%M.val b=M.val r:=by rw[h,Nat.mul_comm,Nat.mul_add_mod,Nat.mod_eq_of_lt hlt]
 have e1:Int.tdiv (M.val a:Int) (M.val b:Int)=((M.val q:Nat):Int):=by rw[<-Int.ofNat_tdiv,hq]
 have e2:Int.tmod (M.val a:Int) (M.val b:Int)=((M.val r:Nat):Int):=by rw[<-Int.ofNat_tmod,hr]
 unfold M.int
 cases m <;> cases n <;> simp[Int.tdiv_neg,Int.neg_tdiv,Int.tmod_neg,Int.neg_tmod,e1,e2]
def QuoR (B:Nat)(w:World)(e:Ending)(x y:Int):Prop :=
 ∃s aq kq cq q t ar kr cr r,e=.returned (.tuple #[.agg #[.bool s,.slice aq kq cq],.agg #[.bool t,.slice ar kr cr]])/\New B w (.slice aq kq cq) q/\New B w (.slice ar kr cr) r/\M.Right s q/\M.Right t r/\M.int s q=Int.tdiv x y/\M.int t r=Int.tmod x y
theorem quoRem_r (m n:Bool)(va vb:Value)(a b:List Nat)(w:World)(ha:Sl w va a)(hb:Sl w vb b)(hra:R m a)(hrb:R n b)(hb0:0<b.length) :
  Calls Tryz.prog 245 #[.agg #[.bool m,va],.agg #[.bool n,vb]] w fun e w'=>Kept w w'/\QuoR w.heap.size w' e (M.int m a) (M.int n b):=by
 have HR:Hid (R m a/\R n b/\0<b.length):=⟨hra,hrb,hb0⟩
 have HA:Hid (Sl w va a/\Sl w vb b):=⟨ha,hb⟩
 clear hra hrb ha hb hb0
 have K4:∀x y t u,Kept w ((((w.alloc x).alloc y).alloc t).alloc u):=fun x y t u=>((((Kept.refl w).alloc x).alloc y).alloc t).alloc u
 go_enter Tryz.func245,Tryz.ntmps245
 go_wp2_with fail
 refine(quoRem_any m n va vb a b _ (HA.out.1.kept (K4 _ _ _ _)) (HA.out.2.kept (K4 _ _ _ _)) HR.out.1 HR.out.2.1 HR.out.2.2).mono ?_
 rintro e w1 ⟨hk,s,aq,kq,cq,q,t,ar,kr,cr,r,rfl,hnq,hnr,hrq,hrr,hval,hlt,hq,hr⟩
 have hm:=m_tdiv (m:=m) (n:=n) hval hlt
 rw[<-hq,<-hr]at hm
 have hsz:=hk.size
 simp at hsz
 have HZ:Hid (w.heap.size+1+1+1+1<=w1.heap.size):=hsz
 have hf2:∀o,w1.frozen? ⟨w.heap.size+1+1,o,none⟩=false:=fun o=>by
  rw[(((Kept.refl _).alloc _).trans hk).frozens (w.heap.size+1+1) o (by simp)]
  exact World.frozen?_alloc_at _ _ _ _ (by simp)
 have hf3:∀o,w1.frozen? ⟨w.heap.size+1+1+1,o,none⟩=false:=fun o=>by
  rw[hk.frozens (w.heap.size+1+1+1) o (by simp)]
  exact World.frozen?_alloc_at _ _ _ _ (by simp)
 have HF:Hid (Kept w w1/\New (w.heap.size+1+1+1+1) w1 (.slice aq kq cq) q/\New (w.heap.size+1+1+1+1) w1 (.slice ar kr cr) r/\M.Right s q/\M.Right t r/\M.int s q=Int.tdiv (M.int m a) (M.int n b)/\M.int t r=Int.tmod (M.int m a) (M.int n b)):=⟨(K4 _ _ _ _).trans hk,hnq.mono (by simp),hnr.mono (by simp),hrq,hrr,hm.1,hm.2⟩
 have hB2:=(box_kept3 (((Kept.refl _).alloc _).trans hk)).2.2.2.2
 have hB3:w1.cell? ⟨w.heap.size+1+1+1,0,none⟩=some (.bool false)/\w1.cell? ⟨w.heap.size+1+1+1,1,none⟩=some (.slice none 0 0):=by
  constructor <;> (rw[hk.cells _ _ (by simp),World.cell?_alloc_at _ _ _ _ (by simp)];rfl)
 clear hk hnq hnr hrq hrr hval hlt hq hr hm K4 hsz
 have HC:Hid ((w1.cell? ⟨w.heap.size+1+1,0,none⟩=some (.bool false)/\w1.cell? ⟨w.heap.size+1+1,1,none⟩=some (.slice none 0 0))/\(w1.cell? ⟨w.heap.size+1+1+1,0,none⟩=some (.bool false)/\w1.cell? ⟨w.heap.size+1+1+1,1,none⟩=some (.slice none 0 0))/\(∀o,w1.frozen? ⟨w.heap.size+1+1,o,none⟩=false)/\(∀o,w1.frozen? ⟨w.heap.size+1+1+1,o,none⟩=false)):=⟨hB2,hB3,hf2,hf3⟩
 clear hB2 hB3 hf2 hf3
 go_wp2_with fail
 have hK:Kept w1 ((w1.alloc (.cells #[.bool s,.slice aq kq cq] 211)).alloc (.cells #[.bool t,.slice ar kr cr] 211)):=((Kept.refl w1).alloc _).alloc _
 have hX:=box_kept2 (Kept.refl ((w1.alloc (.cells #[.bool s,.slice aq kq cq] 211)).alloc (.cells #[.bool t,.slice ar kr cr] 211)))
 have hZ:((w1.alloc (.cells #[.bool s,.slice aq kq cq] 211)).alloc (.cells #[.bool t,.slice ar kr cr] 211)).heap.size=w1.heap.size+1+1:=by simp
 generalize hW:(w1.alloc (.cells #[.bool s,.slice aq kq cq] 211)).alloc (.cells #[.bool t,.slice ar kr cr] 211)=W at hK hX hZ ⊢
 obtain⟨hx0,hx1,hx2,hx3⟩:=hX
 have l3:w.heap.size+1+1+1<w1.heap.size:=by have:=HZ.out;omega
 have l2:w.heap.size+1+1<w1.heap.size:=by omega
 have HK:Hid (Kept w1 W/\W.heap.size=w1.heap.size+1+1):=⟨hK,hZ⟩
 have hy0:=cell_kept hK HC.out.1.1
 have hy1:=cell_kept hK HC.out.1.2
 have hy2:=cell_kept hK HC.out.2.1.1
 have hy3:=cell_kept hK HC.out.2.1.2
 have hf2:∀o,W.frozen? ⟨w.heap.size+1+1,o,none⟩=false:=fun o=>(hK.frozens _ o l2).trans (HC.out.2.2.1 o)
 have hf3:∀o,W.frozen? ⟨w.heap.size+1+1+1,o,none⟩=false:=fun o=>(hK.frozens _ o l3).trans (HC.out.2.2.2 o)
 clear hK hW hZ HC
 obtain⟨p,hp⟩:∃p,p=w1.heap.size:=⟨_,rfl⟩
 rw[<-hp]at hx0 hx1 hx2 hx3 l2 l3 ⊢
 obtain⟨b,hb⟩:∃b,b=w.heap.size+1+1:=⟨_,rfl⟩
 rw[<-hb]at hy0 hy1 hy2 hy3 hf2 hf3 l2 l3 ⊢
 have n1:¬(p=b):=by omega
 have n2:¬(p=b+1):=by omega
 have n3:¬(p+1=b):=by omega
 have n4:¬(p+1=b+1):=by omega
 have n5:¬(b=p):=by omega
 have n6:¬(b+1=p):=by omega
 have n7:¬(b=p+1):=by omega
 have n8:¬(b+1=p+1):=by omega
 have HP:Hid (p=w1.heap.size/\b=w.heap.size+1+1):=⟨hp,hb⟩
 clear l2 l3 hp hb
 go_region
 go_wp2
 have hP:=HP.out
 have hZ:=HZ.out
 refine bodyPost_ret (v:=.tuple #[.agg #[.bool s,.slice aq kq cq],.agg #[.bool t,.slice ar kr cr]]) (by simp[results,Tryz.results245,go_sem,hy0,hy1,hy2,hy3]) rfl ⟨?_,s,aq,kq,cq,q,t,ar,kr,cr,r,rfl,?_,?_,HF.out.2.2.2.1,HF.out.2.2.2.2.1,HF.out.2.2.2.2.2.1,HF.out.2.2.2.2.2.2⟩
 ·exact(((((HF.out.1.trans HK.out.1).setCell (by show w.heap.size<=b;omega) _).setCell (by show w.heap.size<=b;omega) _).setCell (by show w.heap.size<=b+1;omega) _).setCell (by show w.heap.size<=b+1;omega) _).drew
 ·exact((((((HF.out.2.1.kept HK.out.1).other (by show b<w.heap.size+1+1+1+1;omega) _).other (by show b<w.heap.size+1+1+1+1;omega) _).other (by show b+1<w.heap.size+1+1+1+1;omega) _).other (by show b+1<w.heap.size+1+1+1+1;omega) _).kept (Kept.refl _).drew).mono (by omega)
 ·exact((((((HF.out.2.2.1.kept HK.out.1).other (by show b<w.heap.size+1+1+1+1;omega) _).other (by show b<w.heap.size+1+1+1+1;omega) _).other (by show b+1<w.heap.size+1+1+1+1;omega) _).other (by show b+1<w.heap.size+1+1+1+1;omega) _).kept (Kept.refl _).drew).mono (by omega)
end F
end Go.Proofs.YtdjhmgmjiglcbaaGreatDoor
namespace Go.Proofs.YtdjhmgmjiglcbaaGreatDoor
open Go.RowKit
namespace F
def Flag (w:World)(kb:Nat)(x:Bool):Prop:=w.rowIs kb 289 1 (fun _=>.bool x)
structure KeptK (kb:Nat) (w w':World):Prop where
  os:w'.os=w.os
  tape:w'.tape=w.tape
  output:w'.output=w.output
  size:w.heap.size<=w'.heap.size
  block:∀k,k<w.heap.size->k≠kb->w'.heap[k]?=w.heap[k]?
theorem KeptK.of {kb:Nat}{w w':World}(h:Kept w w'):KeptK kb w w':=⟨h.os,h.tape,h.output,h.size,fun k hk _=>h.block k hk⟩
theorem KeptK.refl (kb:Nat)(w:World):KeptK kb w w:=.of (Kept.refl w)
theorem KeptK.trans {kb:Nat}{a b c:World}(h:KeptK kb a b)(k:KeptK kb b c):KeptK kb a c :=
  ⟨k.os.trans h.os,k.tape.trans h.tape,k.output.trans h.output,Nat.le_trans h.size k.size,fun i hi hn=>(k.block i (Nat.lt_of_lt_of_le hi h.size) hn).trans (h.block i hi hn)⟩
theorem KeptK.then {kb:Nat}{a b c:World}(h:KeptK kb a b)(k:Kept b c):KeptK kb a c:=h.trans (.of k)
theorem KeptK.setNew {kb:Nat}{a b:World}(h:KeptK kb a b){p:Addr}(hp:a.heap.size<=p.block)(u:Value):KeptK kb a (b.setCell p u):=by
  have k:Below a.heap.size b (b.setCell p u):=Below.setCell (Below.refl _ _) hp u
  exact⟨k.os.trans h.os,k.tape.trans h.tape,k.output.trans h.output,Nat.le_trans h.size k.size,fun i hi hn=>(k.block i hi).trans (h.block i hi hn)⟩
theorem KeptK.setK {kb:Nat}{a b:World}(h:KeptK kb a b)(o:Nat)(u:Value):KeptK kb a (b.setCell ⟨kb,o,none⟩ u):=by
  have k:Below 0 b (b.setCell ⟨kb,o,none⟩ u):=Below.setCell (Below.refl _ _) (by simp) u
  exact⟨k.os.trans h.os,k.tape.trans h.tape,k.output.trans h.output,Nat.le_trans h.size k.size,fun i hi hn=>(Below.heap_setCell b ⟨kb,o,none⟩ u i hn).trans (h.block i hi hn)⟩
theorem KeptK.out {kb:Nat}{a b c:World}(h:Kept a b)(k:KeptK kb b c)(hk:a.heap.size<=kb):Kept a c :=
  ⟨k.os.trans h.os,k.tape.trans h.tape,k.output.trans h.output,Nat.le_trans h.size k.size,fun i hi=>(k.block i (Nat.lt_of_lt_of_le hi h.size) (by omega)).trans (h.block i hi)⟩
theorem Flag.kept {w w':World}{kb:Nat}{x:Bool}(h:Flag w kb x)(k:Kept w w'):Flag w' kb x:=World.rowIs.of_block h (k.block kb h.lt)
theorem Flag.other {w:World}{kb:Nat}{x:Bool}(h:Flag w kb x){p:Addr}(hp:kb≠p.block)(u:Value):Flag (w.setCell p u) kb x:=World.rowIs.setOther h hp u
theorem Flag.set {w:World}{kb:Nat}{x:Bool}(h:Flag w kb x)(y:Bool):Flag (w.setCell ⟨kb,0,none⟩ (.bool y)) kb y :=
  (World.rowIs.set h 0 (.bool y)).congr (fun i hi => by obtain rfl : i = 0 := by omega
                                                        simp)
theorem Flag.cell0 {w:World}{kb:Nat}{x:Bool}(h:Flag w kb x):w.cell? ⟨kb,0,none⟩=some (.bool x):=World.rowIs.cell h (by omega)
theorem Flag.none {w:World}{kb o:Nat}{x:Bool}(h:Flag w kb x){v:Value}(hc:w.cell? ⟨kb,o,none⟩=some v):v=.bool x:=by
  by_cases h0:o=0
  · subst h0;rw[h.cell0]at hc;simpa using hc.symm
  · exfalso
    obtain⟨c,h1,h2,h3⟩:=h
    simp[World.cell?,h1]at hc
    have:=(Array.getElem?_eq_some_iff.1 hc).1
    omega
theorem Sl.keptK {kb:Nat}{x:Bool}{w w':World}{v:Value}{l:List Nat}(hF:Flag w kb x)(h:Sl w v l)(k:KeptK kb w w'):Sl w' v l:=by
  obtain⟨hb,ao,cap,rfl,hx⟩:=h
  refine⟨hb,ao,cap,rfl,fun h0=>?_⟩
  obtain⟨h1,b,off,rfl,hlt,hc⟩:=hx h0
  refine⟨h1,b,off,rfl,Nat.lt_of_lt_of_le hlt k.size,fun j hj=>?_⟩
  have hne:b≠kb:=by
    intro e
    subst e
    have:=hF.none (hc 0 h0)
    simp at this
  rw[World.cell?_of_block (w:=w) (a:=⟨b,off+j,none⟩) (k.block b hlt hne)]
  exact hc j hj
theorem New.keptK {kb B:Nat}{x:Bool}{w w':World}{v:Value}{l:List Nat}(hF:Flag w kb x)(h:New B w v l)(k:KeptK kb w w'):New B w' v l:=by
  obtain⟨hb,⟨rfl,rfl⟩|⟨b,N,f,rfl,hB,hN,hr,hf⟩⟩:=h
  · exact⟨hb,.inl ⟨rfl,rfl⟩⟩
  · refine⟨hb,.inr ⟨b,N,f,rfl,hB,hN,hr.of_block (k.block b hr.lt ?_),hf⟩⟩
    intro e
    subst e
    obtain⟨c,h1,_,_⟩:=hr
    obtain⟨c',h2,_,_⟩:=hF
    rw[h1]at h2
    simp at h2
theorem cell_keptK {kb b o:Nat}{w w':World}{v:Value}(k:KeptK kb w w')(hn:b≠kb)(hc:w.cell? ⟨b,o,none⟩=some v):w'.cell? ⟨b,o,none⟩=some v :=
  (World.cell?_of_block (w:=w) (a:=⟨b,o,none⟩) (k.block b (World.block_lt_of_cell? w _ hc) hn)).trans hc
theorem frozen_keptK {kb b o:Nat}{w w':World}(k:KeptK kb w w')(hn:b≠kb)(hb:b<w.heap.size):w'.frozen? ⟨b,o,none⟩=w.frozen? ⟨b,o,none⟩ :=
  World.frozen?_of_block (w:=w) (a:=⟨b,o,none⟩) (k.block b hb hn)
theorem take_r (kb:Nat)(x s:Bool)(ao:Option Addr)(k cap:Nat)(c:Int)(w:World)(hF:Flag w kb x)(hc:c=0∨c=13) :
    Calls Tryz.prog 286 #[.pointer (some ⟨kb,0,none⟩),.agg #[.bool s,.slice ao k cap],.int .i64 c] w fun e w'=>e=.returned (.agg #[.bool s,.slice ao k cap])/\KeptK kb w w'/\Flag w' kb (x||c != 0):=by
  have HF:Hid (Flag w kb x):=hF
  have hlt:=hF.lt
  have h0:=hF.cell0
  have hf:∀o,w.frozen? ⟨kb,o,none⟩=false:=fun o=>World.rowIs.frozen hF o
  have hne:¬(kb=w.heap.size):=by omega
  have hne1:¬(kb=w.heap.size+1):=by omega
  clear hF
  rcases hc with rfl|rfl <;> cases x
  all_goals
    go_enter Tryz.func286,Tryz.ntmps286
    go_wp2
    exact bodyPost_ret (v:=.agg #[.bool s,.slice ao k cap]) (by simp[results,Tryz.results286,go_sem]) rfl ⟨rfl,(((KeptK.refl kb w).setK 0 _).then ((Kept.refl _).alloc _)).then ((Kept.refl _).alloc _),((HF.out.set _).kept ((Kept.refl _).alloc _)).kept ((Kept.refl _).alloc _)⟩
end F
end Go.Proofs.YtdjhmgmjiglcbaaGreatDoor
namespace Go.Proofs.YtdjhmgmjiglcbaaGreatDoor
open Go.RowKit
namespace F
def RecIs (kb B:Nat)(x:Bool)(w:World)(e:Ending)(z:Int):Prop :=
 ∃x' s ao k cap l,e=.returned (.agg #[.bool s,.slice ao k cap])/\Flag w kb x'/\New B w (.slice ao k cap) l/\M.Right s l/\(x'=false->x=false/\M.int s l=z)/\(x=false->z.natAbs<M.W72->x'=false)
def RecQ (kb B:Nat)(x:Bool)(w:World)(e:Ending)(z:Int):Prop :=
 ∃x' s ao k cap l,e=.returned (.agg #[.bool s,.slice ao k cap])/\Flag w kb x'/\New B w (.slice ao k cap) l/\M.Right s l/\(x'=false->x=false/\M.int s l=z)/\(x=false->z.natAbs<M.W72->x'=false)/\(z.natAbs<M.W72->M.int s l=z)/\(M.int s l=z∨(s=false/\l=[]))
theorem RecQ.is {kb B:Nat}{x:Bool}{w:World}{e:Ending}{z:Int}(h:RecQ kb B x w e z):RecIs kb B x w e z:=by
 obtain⟨x',s,ao,k,cap,l,h1,h2,h3,h4,h5,h6,_⟩:=h
 exact⟨x',s,ao,k,cap,l,h1,h2,h3,h4,h5,h6⟩
theorem rec_of {B kb:Nat}{x s:Bool}{w w':World}{ao:Option Addr}{k cap:Nat}{c z:Int}(h:Fin B w s (.slice ao k cap) c z)(hF:Flag w kb x)(hk:KeptK kb w w')(hF':Flag w' kb (x||c != 0)) :
  RecQ kb B x w' (.returned (.agg #[.bool s,.slice ao k cap])) z:=by
 rcases h with ⟨rfl,l,hn,hr,hi⟩|⟨rfl,rfl,hv,hw⟩
 ·exact⟨_,_,_,_,_,l,rfl,hF',New.keptK hF hn hk,hr,fun h=>⟨by simpa using h,hi⟩,fun h _=>by simp[h],fun _=>hi,.inl hi⟩
 ·cases hv
  exact⟨_,_,_,_,_,[],rfl,hF',New.nil _ _,⟨M.Bd_nil,by simp[M.Tr],by simp,fun _=>rfl⟩,fun h=>by simp at h,fun _ h=>by omega,fun h=>by omega,.inr ⟨rfl,rfl⟩⟩
theorem fin_c {B:Nat}{s:Bool}{w:World}{v:Value}{c z:Int}(h:Fin B w s v c z):c=0∨c=13:=by
 rcases h with h|h
 ·exact .inl h.1
 ·exact .inr h.1
theorem mul_q (kb:Nat)(x m n:Bool)(va vb:Value)(a b:List Nat)(w:World)(hF:Flag w kb x)(ha:Sl w va a)(hb:Sl w vb b)(hra:R m a)(hrb:R n b) :
  Calls Tryz.prog 268 #[.pointer (some ⟨kb,0,none⟩),.agg #[.bool m,va],.agg #[.bool n,vb]] w fun e w'=>KeptK kb w w'/\RecQ kb w.heap.size x w' e (M.int m a*M.int n b):=by
 have HR:Hid (R m a/\R n b):=⟨hra,hrb⟩
 have HA:Hid (Sl w va a/\Sl w vb b/\Flag w kb x):=⟨ha,hb,hF⟩
 have hlt:=hF.lt
 clear hra hrb ha hb hF
 have K3:∀x y t,Kept w (((w.alloc x).alloc y).alloc t):=fun x y t=>(((Kept.refl w).alloc x).alloc y).alloc t
 go_enter Tryz.func268,Tryz.ntmps268
 go_wp2_with fail
 refine(mul_any m n va vb a b _ (HA.out.1.kept (K3 _ _ _)) (HA.out.2.1.kept (K3 _ _ _)) HR.out.1 HR.out.2).mono ?_
 rintro e w1 ⟨hk,s,ao,k,cap,c,rfl,hFin⟩
 obtain⟨_,_,_,_,hR0,hR1⟩:=box_kept3 hk
 have hsz:=hk.size
 simp at hsz
 have hf:∀o,w1.frozen? ⟨w.heap.size+1+1,o,none⟩=false:=fun o=>by rw[hk.frozens (w.heap.size+1+1) o (by simp)];exact World.frozen?_alloc_at _ _ _ _ (by simp)
 have HC:Hid (w1.cell? ⟨w.heap.size+1+1,0,none⟩=some (.bool false)/\w1.cell? ⟨w.heap.size+1+1,1,none⟩=some (.slice none 0 0)/\(∀o,w1.frozen? ⟨w.heap.size+1+1,o,none⟩=false)/\w.heap.size+1+1<w1.heap.size):=⟨hR0,hR1,hf,by omega⟩
 have HF:Hid (Kept w w1/\Fin (w.heap.size+1+1+1) w1 s (.slice ao k cap) c (M.int m a*M.int n b)):=⟨(K3 _ _ _).trans hk,hFin.mono (by simp)⟩
 have hflag:Flag w1 kb x:=HA.out.2.2.kept HF.out.1
 have HG:Hid (Flag w1 kb x):=hflag
 clear hk hFin K3 hR0 hR1 hf hsz hflag
 go_wp2_with fail
 refine(take_r kb x s ao k cap c w1 HG.out (fin_c HF.out.2)).mono ?_
 rintro e w2 ⟨rfl,hkk,hfl⟩
 have hne:w.heap.size+1+1≠kb:=by omega
 have hS0:=cell_keptK hkk hne HC.out.1
 have hS1:=cell_keptK hkk hne HC.out.2.1
 have hf2:∀o,w2.frozen? ⟨w.heap.size+1+1,o,none⟩=false:=fun o=>(frozen_keptK hkk hne HC.out.2.2.2).trans (HC.out.2.2.1 o)
 have HQ:Hid (KeptK kb w w2/\RecQ kb (w.heap.size+1+1+1) x w2 (.returned (.agg #[.bool s,.slice ao k cap])) (M.int m a*M.int n b)):=⟨(KeptK.of HF.out.1).trans hkk,rec_of HF.out.2 HG.out hkk hfl⟩
 clear hkk hfl hne HC HF HG
 go_wp2
 obtain⟨hK,x',s',ao',k',cap',l,he,h1,h2,h3,h4,h5⟩:=HQ.out
 simp only[Ending.returned.injEq,Value.agg.injEq]at he
 refine bodyPost_ret (v:=.agg #[.bool s,.slice ao k cap]) (by simp[results,Tryz.results268,go_sem,hS0,hS1]) rfl ⟨?_,x',s',ao',k',cap',l,by rw[he],?_,?_,h3,h4,h5⟩
 ·exact(hK.setNew (by show w.heap.size<=w.heap.size+1+1;omega) _).setNew (by show w.heap.size<=w.heap.size+1+1;omega) _
 ·exact(h1.other (by show kb≠w.heap.size+1+1;omega) _).other (by show kb≠w.heap.size+1+1;omega) _
 ·exact((h2.other (by show w.heap.size+1+1<w.heap.size+1+1+1;omega) _).other (by show w.heap.size+1+1<w.heap.size+1+1+1;omega) _).mono (by omega)
end F
end Go.Proofs.YtdjhmgmjiglcbaaGreatDoor
namespace Go.Proofs.YtdjhmgmjiglcbaaGreatDoor
open Go.RowKit
namespace F
theorem answer_r (kb:Nat)(x s t:Bool)(ao ap:Option Addr)(k c k' c':Nat)(w:World)(hF:Flag w kb x) :
  Calls Tryz.prog 267 #[.pointer (some ⟨kb,0,none⟩),.agg #[.bool s,.slice ao k c],.agg #[.bool t,.slice ap k' c']] w fun e w'=>Kept w w'/\e=.returned (if x then .tuple #[.agg #[.bool false,.slice none 0 0,.bool false,.slice none 0 0],.int .i64 13] else .tuple #[.agg #[.bool s,.slice ao k c,.bool t,.slice ap k' c'],.int .i64 0]):=by
 have hlt:=hF.lt
 have h0:=hF.cell0
 have hlt1:kb<w.heap.size+1:=by omega
 have hlt2:kb<w.heap.size+1+1:=by omega
 have hne:¬(kb=w.heap.size):=by omega
 have hne1:¬(kb=w.heap.size+1):=by omega
 have hne2:¬(kb=w.heap.size+1+1):=by omega
 clear hF
 cases x
 ·go_enter Tryz.func267,Tryz.ntmps267
  go_wp2
  exact bodyPost_ret (v:=.tuple #[.agg #[.bool s,.slice ao k c,.bool t,.slice ap k' c'],.int .i64 0]) (by simp[results,Tryz.results267,go_sem]) rfl ⟨((((Kept.refl w).alloc _).alloc _).alloc _),by simp⟩
 ·go_enter Tryz.func267,Tryz.ntmps267
  go_wp2
  exact bodyPost_ret (v:=.tuple #[.agg #[.bool false,.slice none 0 0,.bool false,.slice none 0 0],.int .i64 13]) (by simp[results,Tryz.results267,go_sem]) rfl ⟨((((Kept.refl w).alloc _).alloc _).alloc _),by simp⟩
end F
end Go.Proofs.YtdjhmgmjiglcbaaGreatDoor
namespace Go.Proofs.YtdjhmgmjiglcbaaGreatDoor
open Go.RowKit
namespace F
def RatIs (B:Nat)(w:World)(v:Value)(x y:Int):Prop :=
 ∃s ao k c l t ap k' c' l',v=.agg #[.bool s,.slice ao k c,.bool t,.slice ap k' c']/\New B w (.slice ao k c) l/\M.Right s l/\M.int s l=x/\New B w (.slice ap k' c') l'/\M.Right t l'/\M.int t l'=y
end F
end Go.Proofs.YtdjhmgmjiglcbaaGreatDoor
namespace Go.Proofs.YtdjhmgmjiglcbaaGreatDoor
open Go.RowKit
namespace F
def RecV (kb B:Nat)(x:Bool)(w:World)(e:Ending)(z v:Int):Prop :=
 ∃x' s ao k cap l,e=.returned (.agg #[.bool s,.slice ao k cap])/\Flag w kb x'/\New B w (.slice ao k cap) l/\M.Right s l/\(x'=false->x=false/\M.int s l=v)/\(x=false->z.natAbs<M.W72->x'=false)
end F
end Go.Proofs.YtdjhmgmjiglcbaaGreatDoor
namespace Go.Proofs.YtdjhmgmjiglcbaaGreatDoor
open Go.RowKit
namespace F
def RecP (kb B:Nat)(x:Bool)(w:World)(e:Ending)(fits:Prop)(v:Int):Prop :=
 ∃x' s ao k cap l,e=.returned (.agg #[.bool s,.slice ao k cap])/\Flag w kb x'/\New B w (.slice ao k cap) l/\M.Right s l/\(x'=false->x=false/\M.int s l=v)/\(x=false->fits->x'=false)
end F
end Go.Proofs.YtdjhmgmjiglcbaaGreatDoor
namespace Go.Proofs.YtdjhmgmjiglcbaaGreatDoor
open Go.RowKit
namespace F
end F
end Go.Proofs.YtdjhmgmjiglcbaaGreatDoor
namespace Go.Proofs.YtdjhmgmjiglcbaaGreatDoor
open Go.RowKit
namespace F
theorem lowest_r (m n:Bool)(aoa aob:Option Addr)(ka ca kb cb:Nat)(a b:List Nat)(w:World)(ha:Sl w (.slice aoa ka ca) a)(hb:Sl w (.slice aob kb cb) b)(hra:R m a)(hrb:R n b) :
  Calls Tryz.prog 243 #[.agg #[.bool m,.slice aoa ka ca,.bool n,.slice aob kb cb]] w fun e w'=>e=.returned (.bool (decide (0<M.int n b/\Nat.gcd (M.val a) (M.val b)=1)))/\Kept w w':=by
 have HR:Hid (R m a/\R n b):=⟨hra,hrb⟩
 have HA:Hid (Sl w (.slice aoa ka ca) a/\Sl w (.slice aob kb cb) b):=⟨ha,hb⟩
 obtain⟨sb,hsb⟩:∃sb,sb=isgn (M.int n b) 0:=⟨_,rfl⟩
 have HN:Hid (sb=isgn (M.int n b) 0):=hsb
 clear ha hb hra hrb hsb
 have K1:∀x,Kept w (w.alloc x):=fun x=>(Kept.refl w).alloc x
 by_cases hs:sb<=0
 ·go_enter Tryz.func243,Tryz.ntmps243
  go_wp2_with fail
  refine(sign_any n aob kb cb b _ (HA.out.2.kept (K1 _)) HR.out.2).mono ?_
  rintro e w1 ⟨rfl,hk⟩
  rw[<-HN.out]
  have HK:Hid (Kept w w1):=(K1 _).trans hk
  clear hk K1
  go_wp2
  go_ret
  refine⟨ret_bool ?_,HK.out⟩
  have h:=HN.out
  rw[h]at hs
  symm
  simp only[decide_eq_false_iff_not]
  intro hc
  unfold isgn at hs
  rw[if_neg (by omega),if_neg (by omega)]at hs
  omega
 ·go_enter Tryz.func243,Tryz.ntmps243
  go_wp2_with fail
  refine(sign_any n aob kb cb b _ (HA.out.2.kept (K1 _)) HR.out.2).mono ?_
  rintro e w1 ⟨rfl,hk⟩
  rw[<-HN.out]
  have HK:Hid (Kept w w1):=(K1 _).trans hk
  have hc:=hk.cells
  clear hk K1
  go_wp2_with fail
  refine(gcd_r m n _ _ a b _ (HA.out.1.kept HK.out) (HA.out.2.kept HK.out) HR.out.1 HR.out.2).mono ?_
  rintro e w2 ⟨hk2,s,ao,k,cap,l,rfl,hn,hr,hi⟩
  clear hc
  have HI:Hid (Sl w2 (.slice ao k cap) l/\R s l/\M.int s l=((Nat.gcd (M.val a) (M.val b):Nat):Int)/\Kept w w2):=⟨hn.sl,R.of_right hr,hi,HK.out.trans hk2⟩
  clear hn hr hi hk2
  go_wp2_with fail
  refine(int64_yes s ao k cap l w2 HI.out.1 HI.out.2.1).mono ?_
  rintro e w3 ⟨rfl,hk3⟩
  obtain⟨v,hv⟩:∃v,v=i64r (M.int s l):=⟨_,rfl⟩
  obtain⟨c,hc⟩:∃c,c=i64e (M.int s l):=⟨_,rfl⟩
  rw[<-hv,<-hc]
  have HV:Hid (v=i64r (M.int s l)/\Kept w w3):=⟨hv,HI.out.2.2.2.trans hk3⟩
  clear hv hc hk3
  go_wp2
  go_ret
  refine⟨ret_bool ?_,HV.out.2⟩
  have h1:=HN.out
  have h2:=HI.out.2.2.1
  have h0:0<M.int n b:=by
   rw[h1]at hs
   unfold isgn at hs
   by_cases h4:M.int n b<0
   ·rw[if_pos h4]at hs;omega
   ·rw[if_neg h4]at hs
    by_cases h5:M.int n b=0
    ·rw[if_pos h5]at hs;omega
    ·omega
  have h3:v=1↔Nat.gcd (M.val a) (M.val b)=1:=by
   rw[HV.out.1,h2]
   unfold i64r
   split <;> omega
  rw[Bool.eq_iff_iff]
  simp[h0,h3]
end F
end Go.Proofs.YtdjhmgmjiglcbaaGreatDoor
namespace Go.Proofs.YtdjhmgmjiglcbaaGreatDoor
open Go.RowKit
namespace F
theorem hid' {p:Prop}(h:p):Hid p:=h
def RatAll (w:World)(b off N:Nat)(m n:Nat->Bool)(aa ad:Nat->Option Addr)(ka ca kd cd:Nat->Nat)(a d:Nat->List Nat):Prop :=
 ∀i,i<N->(w.cell? ⟨b,off+i*4,none⟩=some (.bool (m i))/\w.cell? ⟨b,off+i*4+1,none⟩=some (.slice (aa i) (ka i) (ca i))/\w.cell? ⟨b,off+i*4+2,none⟩=some (.bool (n i))/\w.cell? ⟨b,off+i*4+3,none⟩=some (.slice (ad i) (kd i) (cd i)))/\Sl w (.slice (aa i) (ka i) (ca i)) (a i)/\Sl w (.slice (ad i) (kd i) (cd i)) (d i)/\(a i).length<=9223372036854775807/\(d i).length<=9223372036854775807
def Refused (N:Nat)(m n:Nat->Bool)(a d:Nat->List Nat)(c:Int):Prop :=
 (c=10/\∃i,i<N/\¬(R (m i) (a i)/\R (n i) (d i)))∨((∀i,i<N->R (m i) (a i)/\R (n i) (d i))/\((c=20/\∃i,i<N/\¬(0<M.int (n i) (d i)/\Nat.gcd (M.val (a i)) (M.val (d i))=1))∨(c=0/\∀i,i<N->0<M.int (n i) (d i)/\Nat.gcd (M.val (a i)) (M.val (d i))=1)))
theorem refusal_any (ao:Option Addr)(b off N cap:Nat)(w:World)(m n:Nat->Bool)(aa ad:Nat->Option Addr)(ka ca kd cd:Nat->Nat)(a d:Nat->List Nat)(hao:0<N->ao=some ⟨b,off,none⟩)(hN:N<=1000000)(H:RatAll w b off N m n aa ad ka ca kd cd a d) :
  Calls Tryz.prog 223 #[.slice ao N cap] w fun e w'=>Kept w w'/\∃c:Int,e=.returned (.int .i64 c)/\Refused N m n a d c:=by
 have HH:Hid (RatAll w b off N m n aa ad ka ca kd cd a d/\(0<N->ao=some ⟨b,off,none⟩)):=⟨H,hao⟩
 clear H hao
 go_enter Tryz.func223,Tryz.ntmps223
 go_wp2_with fail
 go_loopw [9] (fun vi wr=>∃k:Nat,k<=N/\vi=.int .i64 (k:Int)/\Hid (Kept w wr/\∀i,i<k->R (m i) (a i)/\R (n i) (d i))) (fun vi _=>N-(intOf vi).toNat)
 case atStart=>exact⟨0,Nat.zero_le _,rfl,Kept.refl w,fun i hi=>by omega⟩
 case round=>
  obtain⟨k,hk,rfl,HK⟩:=hrel
  by_cases hlt:k<N
  ·obtain⟨⟨h0,h1,h2,h3⟩,h4⟩:=HH.out.1 k hlt
   obtain rfl:=HH.out.2 (by omega)
   have h0:=cell_kept HK.out.1 h0
   have h1:=cell_kept HK.out.1 h1
   have h2:=cell_kept HK.out.1 h2
   have h3:=cell_kept HK.out.1 h3
   have H4:=hid' h4
   clear h4
   by_cases hA:R (m k) (a k)
   ·have HA:=hid' hA
    clear hA
    go_wp2_with fail
    refine(check_yes (m k) _ (a k) _ (H4.out.1.kept (HK.out.1.alloc _)) HA.out).mono ?_
    rintro e w1 ⟨rfl,hk1⟩
    have c2:w1.cell? ⟨wr.heap.size,2,none⟩=some (.bool (n k)):=by rw[hk1.cells _ _ (by simp)];simp
    have c3:w1.cell? ⟨wr.heap.size,3,none⟩=some (.slice (ad k) (kd k) (cd k)):=by rw[hk1.cells _ _ (by simp)];simp
    have HK1:Hid (Kept w w1):=(HK.out.1.alloc _).trans hk1
    clear hk1
    by_cases hD:R (n k) (d k)
    ·have HD:=hid' hD
     clear hD
     go_wp2_with fail
     refine(check_yes (n k) _ (d k) _ (H4.out.2.1.kept HK1.out) HD.out).mono ?_
     rintro e w2 ⟨rfl,hk2⟩
     have HK2:Hid (Kept w w2):=HK1.out.trans hk2
     clear hk2
     go_wp2_with fail
     go_roundw
     case rel=>exact⟨k+1,by omega,by go_num,HK2.out,fun i hi=>if h:i=k then by rw[h];exact⟨HA.out,HD.out⟩ else HK.out.2 i (by omega)⟩
     case measure=>simp[intOf];omega
    ·have HD:=hid' hD
     clear hD
     go_wp2_with fail
     refine(check_no (n k) _ (d k) _ (H4.out.2.1.kept HK1.out) H4.out.2.2.2 HD.out).mono ?_
     rintro e w2 ⟨rfl,hk2⟩
     have HK2:Hid (Kept w w2):=HK1.out.trans hk2
     clear hk2
     go_wp2
     go_ret
     exact⟨HK2.out,10,rfl,.inl ⟨rfl,k,hlt,fun h=>HD.out h.2⟩⟩
   ·have HA:=hid' hA
    clear hA
    go_wp2_with fail
    refine(check_no (m k) _ (a k) _ (H4.out.1.kept (HK.out.1.alloc _)) H4.out.2.2.1 HA.out).mono ?_
    rintro e w1 ⟨rfl,hk1⟩
    have HK1:Hid (Kept w w1):=(HK.out.1.alloc _).trans hk1
    clear hk1
    go_wp2
    go_ret
    exact⟨HK1.out,10,rfl,.inl ⟨rfl,k,hlt,fun h=>HA.out h.1⟩⟩
  ·have HR:Hid (∀i,i<N->R (m i) (a i)/\R (n i) (d i)):=fun i hi=>HK.out.2 i (by omega)
   go_wp2_with fail
   go_loopw [26] (fun vi wr=>∃k:Nat,k<=N/\vi=.int .i64 (k:Int)/\Hid (Kept w wr/\∀i,i<k->0<M.int (n i) (d i)/\Nat.gcd (M.val (a i)) (M.val (d i))=1)) (fun vi _=>N-(intOf vi).toNat)
   case atStart=>exact⟨0,Nat.zero_le _,rfl,HK.out.1,fun i hi=>by omega⟩
   case round=>
    obtain⟨k,hk,rfl,HK⟩:=hrel
    by_cases hlt:k<N
    ·obtain⟨⟨h0,h1,h2,h3⟩,h4⟩:=HH.out.1 k hlt
     obtain rfl:=HH.out.2 (by omega)
     have h0:=cell_kept HK.out.1 h0
     have h1:=cell_kept HK.out.1 h1
     have h2:=cell_kept HK.out.1 h2
     have h3:=cell_kept HK.out.1 h3
     have H4:=hid' h4
     clear h4
     go_wp2_with fail
     refine(lowest_r (m k) (n k) (aa k) (ad k) (ka k) (ca k) (kd k) (cd k) (a k) (d k) _ (H4.out.1.kept (HK.out.1.alloc _)) (H4.out.2.1.kept (HK.out.1.alloc _)) (HR.out k hlt).1 (HR.out k hlt).2).mono ?_
     by_cases hl:0<M.int (n k) (d k)/\Nat.gcd (M.val (a k)) (M.val (d k))=1
     ·rw[decide_eq_true hl]
      have HL:=hid' hl
      clear hl
      rintro e w1 ⟨rfl,hk1⟩
      have HK1:Hid (Kept w w1):=(HK.out.1.alloc _).trans hk1
      clear hk1
      go_wp2_with fail
      go_roundw
      case rel=>exact⟨k+1,by omega,by go_num,HK1.out,fun i hi=>if h:i=k then by rw[h];exact HL.out else HK.out.2 i (by omega)⟩
      case measure=>simp[intOf];omega
     ·rw[decide_eq_false hl]
      have HL:=hid' hl
      clear hl
      rintro e w1 ⟨rfl,hk1⟩
      have HK1:Hid (Kept w w1):=(HK.out.1.alloc _).trans hk1
      clear hk1
      go_wp2
      go_ret
      exact⟨HK1.out,20,rfl,.inr ⟨HR.out,.inl ⟨rfl,k,hlt,HL.out⟩⟩⟩
    ·go_wp2
     go_ret
     exact⟨HK.out.1,0,rfl,.inr ⟨HR.out,.inr ⟨rfl,fun i hi=>HK.out.2 i (by omega)⟩⟩⟩
end F
end Go.Proofs.YtdjhmgmjiglcbaaGreatDoor
namespace Go.Proofs.YtdjhmgmjiglcbaaGreatDoor
open Go.RowKit
namespace F
theorem opposite_r (m n:Bool)(aoa aob:Option Addr)(ka ca kb cb:Nat)(w:World) :
  Calls Tryz.prog 227 #[.agg #[.bool m,.slice aoa ka ca,.bool n,.slice aob kb cb]] w fun e w'=>e=.returned (.agg #[.bool (!m&&decide (0<ka)),.slice aoa ka ca,.bool n,.slice aob kb cb])/\Kept w w':=by
 obtain⟨s,hs⟩:∃s,s=(!m&&decide (0<ka)):=⟨_,rfl⟩
 rw[<-hs]
 have HS:Hid (s=(!m&&decide (0<ka))):=hs
 clear hs
 have K2:∀x y,Kept w ((w.alloc x).alloc y):=fun x y=>((Kept.refl w).alloc x).alloc y
 go_enter Tryz.func227,Tryz.ntmps227
 go_wp2_with fail
 have hB:∀W,Kept ((w.alloc (.cells #[.bool m,.slice aoa ka ca,.bool n,.slice aob kb cb] 213)).alloc (.cells #[.bool false,.slice none 0 0,.bool false,.slice none 0 0] 213)) W->(W.cell? ⟨w.heap.size,0,none⟩=some (.bool m)/\W.cell? ⟨w.heap.size,1,none⟩=some (.slice aoa ka ca)/\W.cell? ⟨w.heap.size,2,none⟩=some (.bool n)/\W.cell? ⟨w.heap.size,3,none⟩=some (.slice aob kb cb))/\(W.cell? ⟨w.heap.size+1,0,none⟩=some (.bool false)/\W.cell? ⟨w.heap.size+1,1,none⟩=some (.slice none 0 0)/\W.cell? ⟨w.heap.size+1,2,none⟩=some (.bool false)/\W.cell? ⟨w.heap.size+1,3,none⟩=some (.slice none 0 0))/\∀o,W.frozen? ⟨w.heap.size+1,o,none⟩=false:=fun W hk=>by
  refine⟨⟨?_,?_,?_,?_⟩,⟨?_,?_,?_,?_⟩,fun o=>?_⟩
  ·rw[hk.cells _ _ (by simp;omega)];simp
  ·rw[hk.cells _ _ (by simp;omega)];simp
  ·rw[hk.cells _ _ (by simp;omega)];simp
  ·rw[hk.cells _ _ (by simp;omega)];simp
  ·rw[hk.cells _ _ (by simp)];simp
  ·rw[hk.cells _ _ (by simp)];simp
  ·rw[hk.cells _ _ (by simp)];simp
  ·rw[hk.cells _ _ (by simp)];simp
  ·rw[hk.frozens (w.heap.size+1) o (by simp)];exact World.frozen?_alloc_at _ _ _ _ (by simp)
 have HB:Hid (∀W,Kept ((w.alloc (.cells #[.bool m,.slice aoa ka ca,.bool n,.slice aob kb cb] 213)).alloc (.cells #[.bool false,.slice none 0 0,.bool false,.slice none 0 0] 213)) W->(W.cell? ⟨w.heap.size,0,none⟩=some (.bool m)/\W.cell? ⟨w.heap.size,1,none⟩=some (.slice aoa ka ca)/\W.cell? ⟨w.heap.size,2,none⟩=some (.bool n)/\W.cell? ⟨w.heap.size,3,none⟩=some (.slice aob kb cb))/\(W.cell? ⟨w.heap.size+1,0,none⟩=some (.bool false)/\W.cell? ⟨w.heap.size+1,1,none⟩=some (.slice none 0 0)/\W.cell? ⟨w.heap.size+1,2,none⟩=some (.bool false)/\W.cell? ⟨w.heap.size+1,3,none⟩=some (.slice none 0 0))/\∀o,W.frozen? ⟨w.heap.size+1,o,none⟩=false):=hB
 have HK:Hid (Kept w ((w.alloc (.cells #[.bool m,.slice aoa ka ca,.bool n,.slice aob kb cb] 213)).alloc (.cells #[.bool false,.slice none 0 0,.bool false,.slice none 0 0] 213))):=K2 _ _
 clear hB K2
 go_region_held3 (fun w'=>w'.cell? ⟨w.heap.size,0,none⟩=some (.bool m)/\w'.cell? ⟨w.heap.size,1,none⟩=some (.slice aoa ka ca)/\w'.cell? ⟨w.heap.size,2,none⟩=some (.bool n)/\w'.cell? ⟨w.heap.size,3,none⟩=some (.slice aob kb cb)) (go_keep) (first|(go_at_call 247;refine(signed_r (!m) m aoa ka ca _).mono ?_;rw[<-HS.out];rintro e w1 ⟨rfl,hk1⟩;obtain⟨⟨hA0,hA1,hA2,hA3⟩,⟨hR0,hR1,hR2,hR3⟩,hf⟩:=HB.out _ ((Kept.refl _).drew.trans hk1);have HK1:Hid (Kept w w1):=HK.out.drew.trans hk1))
 go_wp2
 refine bodyPost_ret (v:=.agg #[.bool s,.slice aoa ka ca,.bool n,.slice aob kb cb]) (by simp[results,Tryz.results227,go_sem,hR0,hR1,hR2,hR3]) rfl ⟨rfl,?_⟩
 exact(((HK1.out.setCell (by show w.heap.size<=w.heap.size+1;omega) _).setCell (by show w.heap.size<=w.heap.size+1;omega) _).setCell (by show w.heap.size<=w.heap.size+1;omega) _).setCell (by show w.heap.size<=w.heap.size+1;omega) _
end F
end Go.Proofs.YtdjhmgmjiglcbaaGreatDoor
namespace Go.Proofs.YtdjhmgmjiglcbaaGreatDoor
open Go.RowKit
namespace F
end F
end Go.Proofs.YtdjhmgmjiglcbaaGreatDoor
