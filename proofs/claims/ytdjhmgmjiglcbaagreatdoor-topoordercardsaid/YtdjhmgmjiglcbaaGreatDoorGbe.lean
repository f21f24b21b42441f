/- Lemmas. -/
import Derived.Test.YtdjhmgmjiglcbaaGreatDoorGbc
import Derived.Test.YtdjhmgmjiglcbaaGreatDoorGbd
import Derived.Test.YtdjhmgmjiglcbaaGreatDoorGag
import Derived.Laws.OwnMore
import Derived.Test.YtdjhmgmjiglcbaaGreatDoorNa2
import Derived.Deep.AppendLies
set_option maxRecDepth 100000
set_option maxHeartbeats 8000000
namespace Go.Proofs.YtdjhmgmjiglcbaaGreatDoor
open Go.RowKit
namespace V
open Q (hid' parseOf Lett ErrV Tab okN textOf)
open X (bs OwnS RS strs bs_list bs_size)
structure CdR (w:World) (a1:Option Addr) (n1 k1:Nat) (a2:Option Addr) (n2 k2:Nat) (a3:Option Addr) (n3 k3:Nat) (c:Cd):Prop where
 nodes:RS w (.slice a1 n1 k1) c.nodes
 vals:NSl w (.slice a2 n2 k2) c.vals
 steps:ISl w (.slice a3 n3 k3) c.steps
theorem CdR.kept {w w':World}{a1 a2 a3:Option Addr}{n1 k1 n2 k2 n3 k3:Nat}{c:Cd}(h:CdR w a1 n1 k1 a2 n2 k2 a3 n3 k3 c)(k:Kept w w'):CdR w' a1 n1 k1 a2 n2 k2 a3 n3 k3 c:=⟨h.nodes.kept k,h.vals.kept k,h.steps.kept k⟩
def cdC (c:Cd)(nv xv sv:Value):List Value:=[.string (bs c.name),nv,.string (bs c.ref),.int .i64 c.val.1,.int .i64 c.val.2,.int .i64 c.kind,xv,sv]
theorem csame_any (a1 a2 a3 b1 b2 b3:Option Addr)(n1 k1 n2 k2 n3 k3 m1 l1 m2 l2 m3 l3:Nat)(c d:Cd)(w:World)(hc:CdR w a1 n1 k1 a2 n2 k2 a3 n3 k3 c)(hd:CdR w b1 m1 l1 b2 m2 l2 b3 m3 l3 d)(h1:n1<=9223372036854775807)(h2:n2<=9223372036854775807)(h3:n3<=9223372036854775807) :
  Calls Tryz.prog 139 #[cdV c (.slice a1 n1 k1) (.slice a2 n2 k2) (.slice a3 n3 k3),cdV d (.slice b1 m1 l1) (.slice b2 m2 l2) (.slice b3 m3 l3)] w fun e w'=>Kept w w'/\e=.returned (.bool (decide (c=d))):=by
 obtain⟨cn,cnd,cr,⟨cm,cx⟩,ckd,cvs,css⟩:=c
 obtain⟨dn,dnd,dr,⟨dm,dx⟩,dkd,dvs,dss⟩:=d
 unfold cdV
 simp only
 have HC:=hid' (And.intro hc hd)
 have e1:(bs cn).toList=cn:=by rw[ByteArray.toList_eq,bs_list]
 have e2:(bs dn).toList=dn:=by rw[ByteArray.toList_eq,bs_list]
 have e3:(bs cr).toList=cr:=by rw[ByteArray.toList_eq,bs_list]
 have e4:(bs dr).toList=dr:=by rw[ByteArray.toList_eq,bs_list]
 generalize bs cn=s1 at e1 ⊢
 generalize bs dn=s2 at e2 ⊢
 generalize bs cr=s3 at e3 ⊢
 generalize bs dr=s4 at e4 ⊢
 have HE:=hid' (And.intro e1 (And.intro e2 (And.intro e3 e4)))
 obtain⟨r,hr⟩:∃r,r=decide ((⟨cn,cnd,cr,(cm,cx),ckd,cvs,css⟩:Cd)=⟨dn,dnd,dr,(dm,dx),dkd,dvs,dss⟩):=⟨_,rfl⟩
 rw[<-hr]
 have HR:=hid' hr
 clear hr e1 e2 e3 e4 hc hd
 go_enter Tryz.func139,Tryz.ntmps139
 go_upto_region 1 with fail
 have hK:=((Kept.refl w).alloc (.cells #[.string s1,.slice a1 n1 k1,.string s3,.int .i64 cm,.int .i64 cx,.int .i64 ckd,.slice a2 n2 k2,.slice a3 n3 k3] 110)).alloc (.cells #[.string s2,.slice b1 m1 l1,.string s4,.int .i64 dm,.int .i64 dx,.int .i64 dkd,.slice b2 m2 l2,.slice b3 m3 l3] 110)
 have hA:=(RowL.alloc 110 w [.string s1,.slice a1 n1 k1,.string s3,.int .i64 cm,.int .i64 cx,.int .i64 ckd,.slice a2 n2 k2,.slice a3 n3 k3]).kept ((Kept.refl _).alloc (.cells #[.string s2,.slice b1 m1 l1,.string s4,.int .i64 dm,.int .i64 dx,.int .i64 dkd,.slice b2 m2 l2,.slice b3 m3 l3] 110))
 have hB:=RowL.alloc 110 (w.alloc (.cells #[.string s1,.slice a1 n1 k1,.string s3,.int .i64 cm,.int .i64 cx,.int .i64 ckd,.slice a2 n2 k2,.slice a3 n3 k3] 110)) [.string s2,.slice b1 m1 l1,.string s4,.int .i64 dm,.int .i64 dx,.int .i64 dkd,.slice b2 m2 l2,.slice b3 m3 l3]
 rw[World.size_alloc]at hB
 generalize (w.alloc (.cells #[.string s1,.slice a1 n1 k1,.string s3,.int .i64 cm,.int .i64 cx,.int .i64 ckd,.slice a2 n2 k2,.slice a3 n3 k3] 110)).alloc (.cells #[.string s2,.slice b1 m1 l1,.string s4,.int .i64 dm,.int .i64 dx,.int .i64 dkd,.slice b2 m2 l2,.slice b3 m3 l3] 110)=W0 at hK hA hB ⊢
 obtain⟨q,hq⟩:∃q,q=w.heap.size+1:=⟨_,rfl⟩
 rw[<-hq]at hB ⊢
 obtain⟨p,hp⟩:∃q,q=w.heap.size:=⟨_,rfl⟩
 rw[<-hp]at hA ⊢
 have HW:=hid' (And.intro hK (And.intro hA hB))
 clear hK hA hB hq hp
 have f0:=HW.out.2.1.cell 0 (.string s1)
 have f1:=HW.out.2.1.cell 1 (.slice a1 n1 k1)
 have f2:=HW.out.2.1.cell 2 (.string s3)
 have f3:=HW.out.2.1.cell 3 (.int .i64 cm)
 have f4:=HW.out.2.1.cell 4 (.int .i64 cx)
 have f5:=HW.out.2.1.cell 5 (.int .i64 ckd)
 have f6:=HW.out.2.1.cell 6 (.slice a2 n2 k2)
 have f7:=HW.out.2.1.cell 7 (.slice a3 n3 k3)
 have g0:=HW.out.2.2.cell 0 (.string s2)
 have g1:=HW.out.2.2.cell 1 (.slice b1 m1 l1)
 have g2:=HW.out.2.2.cell 2 (.string s4)
 have g3:=HW.out.2.2.cell 3 (.int .i64 dm)
 have g4:=HW.out.2.2.cell 4 (.int .i64 dx)
 have g5:=HW.out.2.2.cell 5 (.int .i64 dkd)
 have g6:=HW.out.2.2.cell 6 (.slice b2 m2 l2)
 have g7:=HW.out.2.2.cell 7 (.slice b3 m3 l3)
 by_cases x1:cn=dn
 rotate_left
 ·have y1:¬s1.toList=s2.toList:=by rw[HE.out.1,HE.out.2.1];exact x1
  have y1':(s1.toList == s2.toList)=false:=by simpa using y1
  have HF:=hid' (show r=false by rw[HR.out];exact decide_eq_false (fun e=>x1 (congrArg Cd.name e)))
  go_wp2_with fail
  go_ret
  exact⟨HW.out.1,by rw[HF.out];rfl⟩
 have y1:s1.toList=s2.toList:=by rw[HE.out.1,HE.out.2.1];exact x1
 have y1':(s1.toList == s2.toList)=true:=by rw[y1];simp
 go_wp2_with fail
 refine(eq_strs a1 b1 n1 m1 k1 l1 cnd dnd _ (HC.out.1.nodes.kept HW.out.1) (HC.out.2.nodes.kept HW.out.1) (by assumption)).mono ?_
 rintro e w1 ⟨hk,rfl⟩
 have HW:=hid' (And.intro (HW.out.1.trans hk) (And.intro (HW.out.2.1.kept hk) (HW.out.2.2.kept hk)))
 clear f0 f1 f2 f3 f4 f5 f6 f7 g0 g1 g2 g3 g4 g5 g6 g7
 clear hk
 have f0:=HW.out.2.1.cell 0 (.string s1)
 have f1:=HW.out.2.1.cell 1 (.slice a1 n1 k1)
 have f2:=HW.out.2.1.cell 2 (.string s3)
 have f3:=HW.out.2.1.cell 3 (.int .i64 cm)
 have f4:=HW.out.2.1.cell 4 (.int .i64 cx)
 have f5:=HW.out.2.1.cell 5 (.int .i64 ckd)
 have f6:=HW.out.2.1.cell 6 (.slice a2 n2 k2)
 have f7:=HW.out.2.1.cell 7 (.slice a3 n3 k3)
 have g0:=HW.out.2.2.cell 0 (.string s2)
 have g1:=HW.out.2.2.cell 1 (.slice b1 m1 l1)
 have g2:=HW.out.2.2.cell 2 (.string s4)
 have g3:=HW.out.2.2.cell 3 (.int .i64 dm)
 have g4:=HW.out.2.2.cell 4 (.int .i64 dx)
 have g5:=HW.out.2.2.cell 5 (.int .i64 dkd)
 have g6:=HW.out.2.2.cell 6 (.slice b2 m2 l2)
 have g7:=HW.out.2.2.cell 7 (.slice b3 m3 l3)
 by_cases x2:cnd=dnd
 rotate_left
 ·rw[decide_eq_false x2]
  have HF:=hid' (show r=false by rw[HR.out];exact decide_eq_false (fun e=>x2 (congrArg Cd.nodes e)))
  go_wp2_with fail
  go_ret
  exact⟨HW.out.1,by rw[HF.out];rfl⟩
 rw[decide_eq_true x2]
 by_cases x3:cr=dr
 rotate_left
 ·have y3:¬s3.toList=s4.toList:=by rw[HE.out.2.2.1,HE.out.2.2.2];exact x3
  have y3':(s3.toList == s4.toList)=false:=by simpa using y3
  have HF:=hid' (show r=false by rw[HR.out];exact decide_eq_false (fun e=>x3 (congrArg Cd.ref e)))
  go_wp2_with fail
  go_ret
  exact⟨HW.out.1,by rw[HF.out];rfl⟩
 have y3:s3.toList=s4.toList:=by rw[HE.out.2.2.1,HE.out.2.2.2];exact x3
 have y3':(s3.toList == s4.toList)=true:=by rw[y3];simp
 by_cases x4:cm=dm
 rotate_left
 ·have x4':(cm == dm)=false:=by simpa using x4
  have HF:=hid' (show r=false by rw[HR.out];exact decide_eq_false (fun e=>x4 (congrArg (fun c=>c.val.1) e)))
  go_wp2_with fail
  go_ret
  exact⟨HW.out.1,by rw[HF.out];rfl⟩
 subst x4
 by_cases x5:cx=dx
 rotate_left
 ·have x5':(cx == dx)=false:=by simpa using x5
  have HF:=hid' (show r=false by rw[HR.out];exact decide_eq_false (fun e=>x5 (congrArg (fun c=>c.val.2) e)))
  go_wp2_with fail
  go_ret
  exact⟨HW.out.1,by rw[HF.out];rfl⟩
 subst x5
 by_cases x6:ckd=dkd
 rotate_left
 ·have x6':(ckd == dkd)=false:=by simpa using x6
  have HF:=hid' (show r=false by rw[HR.out];exact decide_eq_false (fun e=>x6 (congrArg Cd.kind e)))
  go_wp2_with fail
  go_ret
  exact⟨HW.out.1,by rw[HF.out];rfl⟩
 subst x6
 go_wp2_with fail
 refine(eq_nums a2 b2 n2 m2 k2 l2 cvs dvs _ (HC.out.1.vals.kept HW.out.1) (HC.out.2.vals.kept HW.out.1) (by assumption)).mono ?_
 rintro e w2 ⟨hk,rfl⟩
 have HW:=hid' (And.intro (HW.out.1.trans hk) (And.intro (HW.out.2.1.kept hk) (HW.out.2.2.kept hk)))
 clear f0 f1 f2 f3 f4 f5 f6 f7 g0 g1 g2 g3 g4 g5 g6 g7
 clear hk
 have f0:=HW.out.2.1.cell 0 (.string s1)
 have f1:=HW.out.2.1.cell 1 (.slice a1 n1 k1)
 have f2:=HW.out.2.1.cell 2 (.string s3)
 have f3:=HW.out.2.1.cell 3 (.int .i64 cm)
 have f4:=HW.out.2.1.cell 4 (.int .i64 cx)
 have f5:=HW.out.2.1.cell 5 (.int .i64 ckd)
 have f6:=HW.out.2.1.cell 6 (.slice a2 n2 k2)
 have f7:=HW.out.2.1.cell 7 (.slice a3 n3 k3)
 have g0:=HW.out.2.2.cell 0 (.string s2)
 have g1:=HW.out.2.2.cell 1 (.slice b1 m1 l1)
 have g2:=HW.out.2.2.cell 2 (.string s4)
 have g3:=HW.out.2.2.cell 3 (.int .i64 cm)
 have g4:=HW.out.2.2.cell 4 (.int .i64 cx)
 have g5:=HW.out.2.2.cell 5 (.int .i64 ckd)
 have g6:=HW.out.2.2.cell 6 (.slice b2 m2 l2)
 have g7:=HW.out.2.2.cell 7 (.slice b3 m3 l3)
 by_cases x7:cvs=dvs
 rotate_left
 ·rw[decide_eq_false x7]
  have HF:=hid' (show r=false by rw[HR.out];exact decide_eq_false (fun e=>x7 (congrArg Cd.vals e)))
  go_wp2_with fail
  go_ret
  exact⟨HW.out.1,by rw[HF.out];rfl⟩
 rw[decide_eq_true x7]
 go_wp2_with fail
 refine(eq_ints a3 b3 n3 m3 k3 l3 css dss _ (HC.out.1.steps.kept HW.out.1) (HC.out.2.steps.kept HW.out.1) (by assumption)).mono ?_
 rintro e w3 ⟨hk,rfl⟩
 have HK:=hid' (HW.out.1.trans hk)
 clear hk
 have HF:=hid' (show r=decide (css=dss) by
  rw[HR.out,decide_eq_decide]
  exact⟨fun e=>congrArg Cd.steps e,fun e=>by rw[x1,x2,x3,x7,e]⟩)
 clear f0 f1 f2 f3 f4 f5 f6 f7 g0 g1 g2 g3 g4 g5 g6 g7
 generalize decide (css=dss)=bb at HF ⊢
 cases bb <;>
 ·go_wp2_with fail
  go_ret
  exact⟨HK.out,by rw[HF.out];rfl⟩
open Q (hid' parseOf Lett ErrV Tab okN textOf)
open X (bs OwnS RS strs bs_list bs_size)
theorem own_keptK' {w w':World}{B:Nat}{v:Value}{ws:List (List UInt8)}(h:OwnS B w v ws)(k:Kept w w'):OwnS B w' v ws:=own_kept h (fun b hb=>k.block b (h.lt b hb).2)
structure CwI (w wr:World) (p:Nat) (t:TypeId) (cs:List Value) (u:Value) (ws:List (List UInt8)):Prop where
 kp:Kept w wr
 le:p<=w.heap.size
 row:RowL t wr p cs
 own:OwnS (w.heap.size+1) wr u ws
theorem CwI.kept {w wr wr':World}{p:Nat}{t:TypeId}{cs:List Value}{u:Value}{ws:List (List UInt8)}(h:CwI w wr p t cs u ws)(k:Kept wr wr'):CwI w wr' p t cs u ws:=⟨h.kp.trans k,h.le,h.row.kept k,own_keptK' h.own k⟩
theorem CwI.add {w wr W3 W4:World}{p:Nat}{t:TypeId}{cs:List Value}{u:Value}{ws news:List (List UInt8)}{g n cap:Nat}(h:CwI w wr p t cs u ws)(KA:Kept wr W3)(own4:W4.ownsRow (w.heap.size+1) 9 1 (.slice (some ⟨g,0,none⟩) n cap) n (strs ws++strs news))(hn:n=ws.length+news.length)(hg:W3.grownBy W4 u.ownBlock) :
  CwI w W4 p t cs (.slice (some ⟨g,0,none⟩) n cap) (ws++news):=by
 have h3:=h.kept KA
 refine⟨Below.grown h3.kp hg h3.kp.size (fun k hk=>by have:=(h3.own.lt k hk).1;omega),h.le,h3.row.block (hg.block p h3.row.lt (fun e=>by have:=(h3.own.lt p e.symm).1;have:=h.le;omega)),?_⟩
 unfold OwnS
 rw[X.strs_app,List.length_append,<-hn]
 exact own4
def WwIs (k:Int)(xv sv:Value)(vs:List (Int×Int))(ss:List Int)(w:World):Prop:=∀V,Kept w V->Calls Tryz.prog 158 #[.agg #[.int .i64 k,xv,sv]] V fun e w'=>Kept V w'/\∃u,e=.returned u/\RS w' u (wwords k vs ss)
theorem wave_not (c:UInt8)(h:refC c=true∨valueC c=true):waveC c=false:=by
 rcases h with h|h
 ·have h1:=of_decide_eq_true h
  simp only[List.mem_cons,List.not_mem_nil,or_false]at h1
  rcases h1 with rfl|rfl|rfl|rfl|rfl <;> decide
 ·have h1:=of_decide_eq_true h
  simp only[List.mem_cons,List.not_mem_nil,or_false]at h1
  rcases h1 with rfl|rfl|rfl|rfl|rfl|rfl|rfl|rfl <;> decide
theorem pwlW_len:∀(vs:List (Int×Int)) (ss:List Int),(pwlW vs ss).length<=2*vs.length
 | [],_=>by simp[pwlW]
 |_::_,[]=>by simp[pwlW]
 |v::vs,s::ss=>by
  have:=pwlW_len vs ss
  simp only[pwlW,List.length_cons]
  omega
theorem okW_len {k:Int}{vs:List (Int×Int)}{ss:List Int}(h:okW k vs ss=true):vs.length<=16/\ss.length<=16:=by
 unfold okW fitsB at h
 simp only[Bool.and_eq_true,Bool.or_eq_true,beq_iff_eq,decide_eq_true_eq]at h
 omega
theorem wwords_len (k:Int)(vs:List (Int×Int))(ss:List Int):(wwords k vs ss).length<=40:=by
 unfold wwords
 split
 ·simp
 ·rename_i h
  have hl:=okW_len (show okW k vs ss=true by simpa using h)
  have hp:=pwlW_len vs ss
  have ho:(obo vs ss).length=vs.length+ss.length:=by simp[obo]
  split
  ·rw[List.length_cons];omega
  split
  ·rw[List.length_cons];omega
  split
  ·rw[List.length_cons];omega
  ·rw[List.length_cons];omega
theorem lit_own (w:World)(B:Nat)(s:ByteArray)(hB:B<=w.heap.size):OwnS B (w.alloc (.cells #[.string s] 9)) (.slice (some ⟨w.heap.size,0,none⟩) 1 1) [s.data.toList]:=by
 refine⟨rfl,.inr ⟨w.heap.size,1,#[.string s],rfl,hB,?_,Nat.le_refl _,by unfold maxLen;omega,rfl,rfl⟩⟩
 show (w.heap.push _)[w.heap.size]?=_
 simp
theorem cardWords_plain (a1 a2 a3:Option Addr)(n1 k1 n2 k2 n3 k3:Nat)(c:Cd)(w:World)(hL:Lett w)(hT:Tab w)(hc:CdR w a1 n1 k1 a2 n2 k2 a3 n3 k3 c)(hh:0<c.name.length)(hl:(n1+200)*16<=140737488355328)(hw:waveC (c.name.getD 0 0)=false) :
  Calls Tryz.prog 137 #[cdV c (.slice a1 n1 k1) (.slice a2 n2 k2) (.slice a3 n3 k3)] w fun e w'=>Kept w w'/\∃u,e=.returned u/\OwnS w.heap.size w' u (cwords c):=by
 obtain⟨cn,cnd,cr,⟨cm,cx⟩,ckd,cvs,css⟩:=c
 unfold cdV
 simp only at hh hw ⊢
 have HC:=hid' (And.intro hc (And.intro hL (And.intro hT (And.intro hh hw))))
 have HLN:=hid' (show n1=cnd.length from rs_len hc.nodes)
 obtain⟨s1,hs1⟩:∃s,s=bs cn:=⟨_,rfl⟩
 obtain⟨s3,hs3⟩:∃s,s=bs cr:=⟨_,rfl⟩
 rw[<-hs1,<-hs3]
 have HE:=hid' (And.intro hs1 hs3)
 clear hs1 hs3 hc hL hT hh hw
 obtain⟨i0,hi,hz0,hz1,hz2⟩:=info_parts X.info_str
 go_enter Tryz.func137,Tryz.ntmps137
 go_wp2_with fail
 have hK:=(Kept.refl w).alloc (.cells #[.string s1,.slice a1 n1 k1,.string s3,.int .i64 cm,.int .i64 cx,.int .i64 ckd,.slice a2 n2 k2,.slice a3 n3 k3] 110)
 have hA:=RowL.alloc 110 w [.string s1,.slice a1 n1 k1,.string s3,.int .i64 cm,.int .i64 cx,.int .i64 ckd,.slice a2 n2 k2,.slice a3 n3 k3]
 generalize w.alloc (.cells #[.string s1,.slice a1 n1 k1,.string s3,.int .i64 cm,.int .i64 cx,.int .i64 ckd,.slice a2 n2 k2,.slice a3 n3 k3] 110)=W0 at hK hA ⊢
 obtain⟨p,hp⟩:∃q,q=w.heap.size:=⟨_,rfl⟩
 rw[<-hp]at hA ⊢
 refine(anew_any s1 _).mono ?_
 rintro e w1 ⟨hk1,rfl⟩
 have hA:=hA.kept hk1
 have f1:=hA.cell 1 (.slice a1 n1 k1)
 have f1':=(hA.kept ((Kept.refl w1).alloc (.cells #[.string s1] 9))).cell 1 (.slice a1 n1 k1)
 have HP:=hid' hp
 have HW:=hid' (And.intro (hK.trans hk1) hA)
 clear hK hA hk1 hp
 go_wp2_with fail
 have HI0:Hid (CwI w _ p 110 [.string s1,.slice a1 n1 k1,.string s3,.int .i64 cm,.int .i64 cx,.int .i64 ckd,.slice a2 n2 k2,.slice a3 n3 k3] (.slice (some ⟨w1.heap.size,0,none⟩) 1 1) [s1.data.toList]):=⟨HW.out.1.alloc (.cells #[.string s1] 9),by rw[HP.out];exact Nat.le_refl _,HW.out.2.kept ((Kept.refl w1).alloc (.cells #[.string s1] 9)),lit_own w1 _ s1 (by have:=HW.out.2.lt;have:=HP.out;omega)⟩
 generalize w1.alloc (.cells #[.string s1] 9)=W1 at HI0 f1' ⊢
 generalize (Value.slice (some ⟨w1.heap.size,0,none⟩) 1 1)=u0 at HI0 ⊢
 go_loopw [3,14] (fun vu vi wr=>∃k:Nat,k<=n1/\vi=.int .i64 (k:Int)/\Hid (CwI w wr p 110 [.string s1,.slice a1 n1 k1,.string s3,.int .i64 cm,.int .i64 cx,.int .i64 ckd,.slice a2 n2 k2,.slice a3 n3 k3] vu ([s1.data.toList]++cnd.take k))) (fun _ vi _=>n1-(intOf vi).toNat)
 case atStart=>exact⟨0,Nat.zero_le _,rfl,by rw[List.take_zero,List.append_nil];exact HI0.out⟩
 case round=>
  obtain⟨k,hk,rfl,HI⟩:=hrel
  clear HI0
  by_cases hkt:k<n1
  ·have hki:(k:Int)<(n1:Int):=by omega
   obtain⟨ao',c',hv',hx⟩:=HC.out.1.nodes.kept HI.out.kp
   simp only[Value.slice.injEq]at hv'
   obtain⟨rfl,hnw0,rfl⟩:=hv'
   clear hnw0
   have hnw:n1=cnd.length:=HLN.out
   obtain⟨b,off,rfl,hb,hcl⟩:=hx (show 0<cnd.length by omega)
   have q0:wr.cell? ⟨b,off+k,none⟩=some (.string (bs (cnd.getD k []))):=hcl k (show k<cnd.length by omega)
   obtain⟨sk,hsk⟩:∃s,s=bs (cnd.getD k []):=⟨_,rfl⟩
   rw[<-hsk]at q0
   have HTK:=hid' (show [s1.data.toList]++cnd.take k++[sk.data.toList]=[s1.data.toList]++cnd.take (k+1) by
    rw[hsk,bs_list,List.append_assoc,List.take_succ_eq_append_getElem (by omega)]
    simp[List.getElem?_eq_getElem (show k<cnd.length by omega)])
   obtain⟨wk,hwk⟩:∃l,l=[s1.data.toList]++cnd.take k:=⟨_,rfl⟩
   rw[<-hwk]at HI HTK
   have HLW:=hid' (show wk.length<=n1+1 by rw[hwk,List.length_append,List.length_take];simp;omega)
   clear hx hcl hnw hsk hwk
   go_wp2_with fail
   refine(anew_any sk _).mono ?_
   rintro e w2 ⟨hk2,rfl⟩
   have HI:=hid' (HI.out.kept hk2)
   clear hk2
   have KA:=(Kept.refl w2).alloc (.cells #[.string sk] 9)
   go_wp2_with (at_builtin;refine wpList_append_lies _ rfl (.tmp 18) (.tmp 21) 22 rfl (w.heap.size+1) 9 i0 (.string ByteArray.empty) 1 16 X.und_strs hi hz0 hz1 hz2 rfl (by decide) u3 wk.length (strs wk) rfl (by exact(HI.out.kept KA).own) ⟨w2.heap.size,0,none⟩ 1 1 [.string sk] rfl rfl (X.cell_new w2 _ _) (fun u hu=>by simp at hu;subst hu;rfl) (by omega) (by have:=HLW.out;unfold maxLen;omega) (by have:=HLW.out;omega) (by have:=HI.out.kp.size;have:=HI.out.row.lt;have:=HI.out.le;have:=HP.out;simp;omega) _ rfl ?_)
   intro g4 cap4 W4 own4 hg4 hgg _
   have HI:=hid' (HI.out.add (news:=[sk.data.toList]) KA own4 rfl hg4)
   clear own4 hg4 hgg KA
   go_wp2_with fail
   go_roundw
   case rel=>exact⟨k+1,by omega,by go_num,by rw[<-HTK.out];exact HI.out⟩
   case measure=>show n1-((k:Int)+1).toNat<n1-(k:Int).toNat;omega
  ·have hki:¬(k:Int)<(n1:Int):=by omega
   obtain rfl:k=n1:=by omega
   rw[List.take_of_length_le (by rw[<-HLN.out];exact Nat.le_refl _)]at HI
   have f0:=HI.out.row.cell 0 (.string s1)
   have hs1:0<s1.size:=by rw[HE.out.1,bs_size];exact HC.out.2.2.2.1
   have hs1':(0:Int)<(s1.size:Int):=by omega
   have HQ:=hid' (show s1[0]=cn.getD 0 0 from head_of hs1 HE.out.1)
   have HCW:=hid' (show cwords ⟨cn,cnd,cr,(cm,cx),ckd,cvs,css⟩=[s1.data.toList]++cnd++(if refC s1[0]=true then [cr] else [])++(if valueC s1[0]=true then [tx (cm,cx)] else [])++(if waveC s1[0]=true then wwords ckd cvs css else []) by
    unfold cwords
    rw[HQ.out,HE.out.1,bs_list])
   go_wp2_with fail
   refine(among_is s1[0] ⟨#[102,104,100,115,120]⟩ [102,104,100,115,120] _ rfl).mono ?_
   rintro e w2 ⟨rfl,rfl⟩
   rw[show decide (s1[0]∈([102,104,100,115,120]:List UInt8))=refC s1[0] from rfl]
   obtain⟨sv,hsv⟩:∃s,s=bs (tx (cm,cx)):=⟨_,rfl⟩
   have HLW:=hid' (show ([s1.data.toList]++cnd).length<=k+1 by rw[List.length_append,<-HLN.out];simp only[List.length_cons,List.length_nil];omega)
   have HSV:=hid' hsv
   clear hsv
   have f2:=HI.out.row.cell 2 (.string s3)
   have f3:=HI.out.row.cell 3 (.int .i64 cm)
   have f4:=HI.out.row.cell 4 (.int .i64 cx)
   have f5:=HI.out.row.cell 5 (.int .i64 ckd)
   have f6:=HI.out.row.cell 6 (.slice a2 n2 k2)
   have f7:=HI.out.row.cell 7 (.slice a3 n3 k3)
   cases hr:refC s1[0]
   ·go_wp2_with fail
    refine(among_is s1[0] ⟨#[114,99,108,101,103,102,104,116]⟩ [114,99,108,101,103,102,104,116] _ rfl).mono ?_
    rintro e WV ⟨rfl,rfl⟩
    rw[show decide (s1[0]∈([114,99,108,101,103,102,104,116]:List UInt8))=valueC s1[0] from rfl]
    cases hv:valueC s1[0]
    ·go_wp2_with fail
     refine(among_is s1[0] ⟨#[118,105]⟩ [118,105] _ rfl).mono ?_
     rintro e WV ⟨rfl,rfl⟩
     rw[show decide (s1[0]∈([118,105]:List UInt8))=waveC s1[0] from rfl]
     cases hw:waveC s1[0]
     ·have HFW:=hid' (show cwords ⟨cn,cnd,cr,(cm,cx),ckd,cvs,css⟩=[s1.data.toList]++cnd by rw[HCW.out,hr,hv,hw];simp)
      go_wp2_with fail
      go_ret
      exact⟨HI.out.kp,_,rfl,by rw[HFW.out];exact own_mono HI.out.own (Nat.le_succ _)⟩
     ·exact absurd (show waveC (cn.getD 0 0)=true by rw[<-HQ.out];exact hw) (by rw[HC.out.2.2.2.2];decide)
    ·have hw:=wave_not s1[0] (.inr hv)
     go_wp2_with fail
     refine(ctext_any cm cx _ (HC.out.2.1.kept HI.out.kp) (HC.out.2.2.1.kept HI.out.kp)).mono ?_
     rintro e w4 ⟨hk4,rfl⟩
     have HI:=hid' (HI.out.kept hk4)
     rw[<-HSV.out]
     clear f0 f2 f3 f4 f5 f6 f7
     clear hk4
     have KA:=(Kept.refl w4).alloc (.cells #[.string sv] 9)
     go_wp2_with (at_builtin;refine wpList_append_lies _ rfl (.tmp 37) (.tmp 41) 22 rfl (w.heap.size+1) 9 i0 (.string ByteArray.empty) 1 16 X.und_strs hi hz0 hz1 hz2 rfl (by decide) u3 ([s1.data.toList]++cnd).length (strs ([s1.data.toList]++cnd)) rfl (by exact(HI.out.kept KA).own) ⟨w4.heap.size,0,none⟩ 1 1 [.string sv] rfl rfl (X.cell_new w4 _ _) (fun u hu=>by simp at hu;subst hu;rfl) (by omega) (by have:=HLW.out;unfold maxLen;omega) (by have:=HLW.out;omega) (by have:=HI.out.kp.size;have:=HI.out.row.lt;have:=HI.out.le;have:=HP.out;simp;omega) _ rfl ?_)
     intro g4 cap4 W4 own4 hg4 hgg _
     have HI:=hid' (HI.out.add (news:=[sv.data.toList]) KA own4 rfl hg4)
     clear own4 hg4 hgg KA
     have f0:=HI.out.row.cell 0 (.string s1)
     have f2:=HI.out.row.cell 2 (.string s3)
     have f3:=HI.out.row.cell 3 (.int .i64 cm)
     have f4:=HI.out.row.cell 4 (.int .i64 cx)
     have f5:=HI.out.row.cell 5 (.int .i64 ckd)
     have f6:=HI.out.row.cell 6 (.slice a2 n2 k2)
     have f7:=HI.out.row.cell 7 (.slice a3 n3 k3)
     go_wp2_with fail
     refine(among_is s1[0] ⟨#[118,105]⟩ [118,105] _ rfl).mono ?_
     rintro e WV ⟨rfl,rfl⟩
     rw[show decide (s1[0]∈([118,105]:List UInt8))=waveC s1[0] from rfl]
     rw[hw]
     have HFW:=hid' (show cwords ⟨cn,cnd,cr,(cm,cx),ckd,cvs,css⟩=[s1.data.toList]++cnd++[sv.data.toList] by rw[HCW.out,hr,hv,hw];simp[HSV.out,bs_list])
     go_wp2_with fail
     go_ret
     exact⟨HI.out.kp,_,rfl,by rw[HFW.out];exact own_mono HI.out.own (Nat.le_succ _)⟩
   ·have hw:=wave_not s1[0] (.inl hr)
    go_wp2_with fail
    refine(anew_any s3 _).mono ?_
    rintro e w3 ⟨hk3,rfl⟩
    have HI:=hid' (HI.out.kept hk3)
    clear f0 f2 f3 f4 f5 f6 f7
    clear hk3
    have KA:=(Kept.refl w3).alloc (.cells #[.string s3] 9)
    go_wp2_with (at_builtin;refine wpList_append_lies _ rfl (.tmp 29) (.tmp 33) 22 rfl (w.heap.size+1) 9 i0 (.string ByteArray.empty) 1 16 X.und_strs hi hz0 hz1 hz2 rfl (by decide) u3 ([s1.data.toList]++cnd).length (strs ([s1.data.toList]++cnd)) rfl (by exact(HI.out.kept KA).own) ⟨w3.heap.size,0,none⟩ 1 1 [.string s3] rfl rfl (X.cell_new w3 _ _) (fun u hu=>by simp at hu;subst hu;rfl) (by omega) (by have:=HLW.out;unfold maxLen;omega) (by have:=HLW.out;omega) (by have:=HI.out.kp.size;have:=HI.out.row.lt;have:=HI.out.le;have:=HP.out;simp;omega) _ rfl ?_)
    intro g4 cap4 W4 own4 hg4 hgg _
    have HI:=hid' (HI.out.add (news:=[s3.data.toList]) KA own4 rfl hg4)
    clear own4 hg4 hgg KA
    have f0:=HI.out.row.cell 0 (.string s1)
    have f2:=HI.out.row.cell 2 (.string s3)
    have f3:=HI.out.row.cell 3 (.int .i64 cm)
    have f4:=HI.out.row.cell 4 (.int .i64 cx)
    have f5:=HI.out.row.cell 5 (.int .i64 ckd)
    have f6:=HI.out.row.cell 6 (.slice a2 n2 k2)
    have f7:=HI.out.row.cell 7 (.slice a3 n3 k3)
    go_wp2_with fail
    refine(among_is s1[0] ⟨#[114,99,108,101,103,102,104,116]⟩ [114,99,108,101,103,102,104,116] _ rfl).mono ?_
    rintro e WV ⟨rfl,rfl⟩
    rw[show decide (s1[0]∈([114,99,108,101,103,102,104,116]:List UInt8))=valueC s1[0] from rfl]
    cases hv:valueC s1[0]
    ·go_wp2_with fail
     refine(among_is s1[0] ⟨#[118,105]⟩ [118,105] _ rfl).mono ?_
     rintro e WV ⟨rfl,rfl⟩
     rw[show decide (s1[0]∈([118,105]:List UInt8))=waveC s1[0] from rfl]
     rw[hw]
     have HFW:=hid' (show cwords ⟨cn,cnd,cr,(cm,cx),ckd,cvs,css⟩=[s1.data.toList]++cnd++[s3.data.toList] by rw[HCW.out,hr,hv,hw];simp[HE.out.2,bs_list])
     go_wp2_with fail
     go_ret
     exact⟨HI.out.kp,_,rfl,by rw[HFW.out];exact own_mono HI.out.own (Nat.le_succ _)⟩
    ·have HLW:=hid' (show ([s1.data.toList]++cnd++[s3.data.toList]).length<=k+2 by rw[List.length_append];have:=HLW.out;simp only[List.length_cons,List.length_nil];omega)
     go_wp2_with fail
     refine(ctext_any cm cx _ (HC.out.2.1.kept HI.out.kp) (HC.out.2.2.1.kept HI.out.kp)).mono ?_
     rintro e w4 ⟨hk4,rfl⟩
     have HI:=hid' (HI.out.kept hk4)
     rw[<-HSV.out]
     clear f0 f2 f3 f4 f5 f6 f7
     clear hk4
     have KA:=(Kept.refl w4).alloc (.cells #[.string sv] 9)
     go_wp2_with (at_builtin;refine wpList_append_lies _ rfl (.tmp 37) (.tmp 41) 22 rfl (w.heap.size+1) 9 i0 (.string ByteArray.empty) 1 16 X.und_strs hi hz0 hz1 hz2 rfl (by decide) (.slice (some ⟨g4,0,none⟩) (([s1.data.toList]++cnd).length+1) cap4) ([s1.data.toList]++cnd++[s3.data.toList]).length (strs ([s1.data.toList]++cnd++[s3.data.toList])) rfl (by exact(HI.out.kept KA).own) ⟨w4.heap.size,0,none⟩ 1 1 [.string sv] rfl rfl (X.cell_new w4 _ _) (fun u hu=>by simp at hu;subst hu;rfl) (by omega) (by have:=HLW.out;unfold maxLen;omega) (by have:=HLW.out;omega) (by have:=HI.out.kp.size;have:=HI.out.row.lt;have:=HI.out.le;have:=HP.out;simp;omega) _ rfl ?_)
     intro g4 cap4 W4 own4 hg4 hgg _
     have HI:=hid' (HI.out.add (news:=[sv.data.toList]) KA own4 (by simp) hg4)
     clear own4 hg4 hgg KA
     have f0:=HI.out.row.cell 0 (.string s1)
     have f2:=HI.out.row.cell 2 (.string s3)
     have f3:=HI.out.row.cell 3 (.int .i64 cm)
     have f4:=HI.out.row.cell 4 (.int .i64 cx)
     have f5:=HI.out.row.cell 5 (.int .i64 ckd)
     have f6:=HI.out.row.cell 6 (.slice a2 n2 k2)
     have f7:=HI.out.row.cell 7 (.slice a3 n3 k3)
     go_wp2_with fail
     refine(among_is s1[0] ⟨#[118,105]⟩ [118,105] _ rfl).mono ?_
     rintro e WV ⟨rfl,rfl⟩
     rw[show decide (s1[0]∈([118,105]:List UInt8))=waveC s1[0] from rfl]
     rw[hw]
     have HFW:=hid' (show cwords ⟨cn,cnd,cr,(cm,cx),ckd,cvs,css⟩=[s1.data.toList]++cnd++[s3.data.toList]++[sv.data.toList] by rw[HCW.out,hr,hv,hw];simp[HE.out.2,HSV.out,bs_list])
     go_wp2_with fail
     go_ret
     exact⟨HI.out.kp,_,rfl,by rw[HFW.out];exact own_mono HI.out.own (Nat.le_succ _)⟩
open Q (hid' parseOf Lett ErrV Tab okN textOf)
open X (bs OwnS RS strs bs_list bs_size)
theorem itoa_any (n:Int)(w:World)(h0:-9223372036854775808<=n)(h1:n<=9223372036854775807)(hT:Tab w):Calls Tryz.prog 184 #[.int .i64 n] w fun e w'=>Kept w w'/\e=.returned (.string (bs (Lib.itoa n))):=by
 refine(Tryz.strconv_Itoa n h0 h1 w hT).mono ?_
 rintro e w' ⟨rfl,k,os,rfl⟩
 exact⟨Q.kept_grow w k os,rfl⟩
theorem oneByOne_any (kd:Int)(a2 a3:Option Addr)(n2 k2 n3 k3:Nat)(vs:List (Int×Int))(ss:List Int)(w:World)(hL:Lett w)(hT:Tab w)(h1:NSl w (.slice a2 n2 k2) vs)(h2:ISl w (.slice a3 n3 k3) ss)(hn:n2<=16)(hm:n3<=16)(hss:∀x∈ss,-9223372036854775808<=x/\x<=9223372036854775807) :
  Calls Tryz.prog 187 #[.agg #[.int .i64 kd,.slice a2 n2 k2,.slice a3 n3 k3]] w fun e w'=>Kept w w'/\∃u,e=.returned u/\OwnS w.heap.size w' u (obo vs ss):=by
 have HC0:=hid' (And.intro hL (And.intro hT (And.intro h1 (And.intro h2 hss))))
 have HLN:=hid' (And.intro h1.len h2.len)
 clear hL hT h1 h2 hss
 obtain⟨i0,hi,hz0,hz1,hz2⟩:=info_parts X.info_str
 go_enter Tryz.func187,Tryz.ntmps187
 go_wp2_with fail
 have hK:=(Kept.refl w).alloc (.cells #[.int .i64 kd,.slice a2 n2 k2,.slice a3 n3 k3] 44)
 have hA:=RowL.alloc 44 w [.int .i64 kd,.slice a2 n2 k2,.slice a3 n3 k3]
 generalize w.alloc (.cells #[.int .i64 kd,.slice a2 n2 k2,.slice a3 n3 k3] 44)=W0 at hK hA ⊢
 obtain⟨p,hp⟩:∃q,q=w.heap.size:=⟨_,rfl⟩
 rw[<-hp]at hA ⊢
 have HP:=hid' hp
 have HI0:Hid (CwI w W0 p 44 [.int .i64 kd,.slice a2 n2 k2,.slice a3 n3 k3] (.slice none 0 0) ((vs.take 0).map tx)):=⟨hK,by rw[hp];exact Nat.le_refl _,hA,OwnS.nil _ _⟩
 clear hK hA hp
 go_loopw [3,11] (fun vu vi wr=>∃j:Nat,j<=n2/\vi=.int .i64 (j:Int)/\Hid (CwI w wr p 44 [.int .i64 kd,.slice a2 n2 k2,.slice a3 n3 k3] vu ((vs.take j).map tx))) (fun _ vi _=>n2-(intOf vi).toNat)
 case atStart=>exact⟨0,Nat.zero_le _,rfl,HI0.out⟩
 case round=>
  obtain⟨j,hj,rfl,HI⟩:=hrel
  clear HI0
  by_cases hjt:j<n2
  ·have hji:(j:Int)<(n2:Int):=by omega
   obtain⟨ao',c',hv',hx⟩:=HC0.out.2.2.1.kept HI.out.kp
   simp only[Value.slice.injEq]at hv'
   obtain⟨rfl,hnw0,rfl⟩:=hv'
   clear hnw0
   have hnw:n2=vs.length:=HLN.out.1
   obtain⟨b,off,rfl,hb,hcl⟩:=hx (by omega)
   obtain⟨q0,q1⟩:=hcl j (by omega)
   have hbw:¬b=wr.heap.size:=by omega
   generalize hy:vs.getD j (0,0)=y at q0 q1
   have HTK:=hid' (show (vs.take (j+1)).map tx=(vs.take j).map tx++[tx y] by
    rw[List.take_succ_eq_append_getElem (by omega),List.map_append,<-hy]
    simp[List.getElem?_eq_getElem (show j<vs.length by omega)])
   obtain⟨y0,y1⟩:=y
   simp only at q0 q1
   clear hx hcl hnw hy
   obtain⟨wk,hwk⟩:∃l,l=(vs.take j).map tx:=⟨_,rfl⟩
   rw[<-hwk]at HI HTK
   have HLW:=hid' (show wk.length<=100 by rw[hwk,List.length_map,List.length_take];omega)
   clear hwk
   have kN:=(Kept.refl wr).alloc (.cells #[.int .i64 y0,.int .i64 y1] 25)
   have HI:=hid' (HI.out.kept kN)
   go_wp2_with fail
   generalize wr.alloc (.cells #[.int .i64 y0,.int .i64 y1] 25)=W1 at HI ⊢
   clear kN
   refine(ctext_any y0 y1 _ (HC0.out.1.kept HI.out.kp) (HC0.out.2.1.kept HI.out.kp)).mono ?_
   rintro e w4 ⟨hkt,rfl⟩
   obtain⟨tv,htv⟩:∃t,t=bs (tx (y0,y1)):=⟨_,rfl⟩
   rw[<-htv]
   have Htv:=hid' htv
   have HI:=hid' (HI.out.kept hkt)
   clear htv hkt
   have KA:=(Kept.refl w4).alloc (.cells #[.string tv] 9)
   go_wp2_with (at_builtin;refine wpList_append_lies _ rfl (.tmp 15) (.tmp 18) 22 rfl (w.heap.size+1) 9 i0 (.string ByteArray.empty) 1 16 X.und_strs hi hz0 hz1 hz2 rfl (by decide) u3 wk.length (strs wk) rfl (by exact(HI.out.kept KA).own) ⟨w4.heap.size,0,none⟩ 1 1 [.string tv] rfl rfl (X.cell_new w4 _ _) (fun u hu=>by simp at hu;subst hu;rfl) (by omega) (by have:=HLW.out;unfold maxLen;omega) (by have:=HLW.out;omega) (by have:=HI.out.kp.size;have:=HI.out.row.lt;have:=HI.out.le;have:=HP.out;simp;omega) _ rfl ?_)
   intro g4 cap4 W4 own4 hg4 hgg _
   have HI:=hid' (HI.out.add (news:=[tv.data.toList]) KA own4 rfl hg4)
   clear own4 hg4 hgg KA
   go_wp2_with fail
   go_roundw
   case rel=>
    refine⟨j+1,by omega,by go_num,?_⟩
    rw[HTK.out,<-bs_list (tx (y0,y1)),<-Htv.out]
    exact HI.out
   case measure=>show n2-((j:Int)+1).toNat<n2-(j:Int).toNat;omega
  ·have hji:¬(j:Int)<(n2:Int):=by omega
   have hjn:n2=j:=by omega
   subst hjn
   rw[List.take_of_length_le (by rw[<-HLN.out.1];exact Nat.le_refl _)]at HI
   have f2:=HI.out.row.cell 2 (.slice a3 n3 k3)
   obtain⟨W5,hW5⟩:∃W,W=wr:=⟨_,rfl⟩
   rw[<-hW5]at HI f2 ⊢
   clear hW5
   obtain⟨U5,hU5⟩:∃W,W=u3:=⟨_,rfl⟩
   rw[<-hU5]at HI ⊢
   clear hU5
   go_wp2_with fail
   go_loopw [3,24] (fun vu vi wr=>∃j:Nat,j<=n3/\vi=.int .i64 (j:Int)/\Hid (CwI w wr p 44 [.int .i64 kd,.slice a2 n2 k2,.slice a3 n3 k3] vu (vs.map tx++(ss.take j).map Lib.itoa))) (fun _ vi _=>n3-(intOf vi).toNat)
   case atStart=>exact⟨0,Nat.zero_le _,rfl,by rw[List.take_zero,List.map_nil,List.append_nil];exact HI.out⟩
   case round=>
    obtain⟨j,hj,rfl,HI⟩:=hrel
    clear f2
    by_cases hjt:j<n3
    ·have hji:(j:Int)<(n3:Int):=by omega
     obtain⟨ao',c',hv',hx⟩:=HC0.out.2.2.2.1.kept HI.out.kp
     simp only[Value.slice.injEq]at hv'
     obtain⟨rfl,hnw0,rfl⟩:=hv'
     clear hnw0
     have hnw:n3=ss.length:=HLN.out.2
     obtain⟨b,off,rfl,hb,hcl⟩:=hx (by omega)
     have q0:=hcl j (by omega)
     generalize hy:ss.getD j 0=y at q0
     have HTK:=hid' (show vs.map tx++(ss.take (j+1)).map Lib.itoa=vs.map tx++(ss.take j).map Lib.itoa++[Lib.itoa y] by
      rw[List.take_succ_eq_append_getElem (by omega),List.map_append,<-hy,List.append_assoc]
      simp[List.getElem?_eq_getElem (show j<ss.length by omega)])
     have hyb:=HC0.out.2.2.2.2 y (by rw[<-hy,List.getD_eq_getElem?_getD,List.getElem?_eq_getElem (show j<ss.length by omega)];exact List.getElem_mem _)
     clear hx hcl hnw hy
     obtain⟨wk,hwk⟩:∃l,l=vs.map tx++(ss.take j).map Lib.itoa:=⟨_,rfl⟩
     rw[<-hwk]at HI HTK
     have HLW:=hid' (show wk.length<=100 by rw[hwk,List.length_append,List.length_map,List.length_map,List.length_take,<-HLN.out.1];omega)
     clear hwk
     go_wp2_with fail
     refine(itoa_any y _ hyb.1 hyb.2 (HC0.out.2.1.kept HI.out.kp)).mono ?_
     rintro e w4 ⟨hkt,rfl⟩
     obtain⟨tv,htv⟩:∃t,t=bs (Lib.itoa y):=⟨_,rfl⟩
     rw[<-htv]
     have Htv:=hid' htv
     have HI:=hid' (HI.out.kept hkt)
     clear htv hkt
     have KA:=(Kept.refl w4).alloc (.cells #[.string tv] 9)
     go_wp2_with (at_builtin;refine wpList_append_lies _ rfl (.tmp 28) (.tmp 31) 22 rfl (w.heap.size+1) 9 i0 (.string ByteArray.empty) 1 16 X.und_strs hi hz0 hz1 hz2 rfl (by decide) u3 wk.length (strs wk) rfl (by exact(HI.out.kept KA).own) ⟨w4.heap.size,0,none⟩ 1 1 [.string tv] rfl rfl (X.cell_new w4 _ _) (fun u hu=>by simp at hu;subst hu;rfl) (by omega) (by have:=HLW.out;unfold maxLen;omega) (by have:=HLW.out;omega) (by have:=HI.out.kp.size;have:=HI.out.row.lt;have:=HI.out.le;have:=HP.out;simp;omega) _ rfl ?_)
     intro g4 cap4 W4 own4 hg4 hgg _
     have HI:=hid' (HI.out.add (news:=[tv.data.toList]) KA own4 rfl hg4)
     clear own4 hg4 hgg KA
     go_wp2_with fail
     go_roundw
     case rel=>
      refine⟨j+1,by omega,by go_num,?_⟩
      rw[HTK.out,<-bs_list (Lib.itoa y),<-Htv.out]
      exact HI.out
     case measure=>show n3-((j:Int)+1).toNat<n3-(j:Int).toNat;omega
    ·have hji:¬(j:Int)<(n3:Int):=by omega
     have hjn:n3=j:=by omega
     subst hjn
     rw[List.take_of_length_le (by rw[<-HLN.out.2];exact Nat.le_refl _)]at HI
     go_wp2_with fail
     go_ret
     exact⟨HI.out.kp,_,rfl,own_mono HI.out.own (Nat.le_succ _)⟩
open Q (hid' parseOf Lett ErrV Tab okN textOf)
open X (bs OwnS RS strs bs_list bs_size)
theorem own_news {w:World}{g:Nat}{L:List (List UInt8)}(h:∀j,j<L.length->w.cell? ⟨g,j,none⟩=some (.string (bs (L.getD j [])))):∀j u,(strs L)[j]?=some u->w.cell? ((⟨g,0,none⟩:Addr).add j)=some u:=by
 intro j u hj
 have hjl:=(List.getElem?_eq_some_iff.1 hj).1
 rw[X.strs_len,Nat.mul_one]at hjl
 rw[X.strs_at L j hjl]at hj
 cases hj
 have ha:(⟨g,0,none⟩:Addr).add j=⟨g,j,none⟩:=by
  unfold Addr.add
  by_cases hj0:j=0 <;> simp[hj0]
 rw[ha]
 exact h j hjl
theorem okW_more {k:Int}{vs:List (Int×Int)}{ss:List Int}(h:okW k vs ss=true):1<=vs.length/\vs.length<=16/\ss.length<=16/\(∀x∈ss,-9223372036854775808<=x/\x<=9223372036854775807)/\(k=1∨k=2∨k=3∨k=4)/\(k=3->ss.length=vs.length):=by
 have h2:=okW_len h
 have h0:=h
 unfold okW fitsB at h
 simp only[Bool.and_eq_true,Bool.or_eq_true,beq_iff_eq,decide_eq_true_eq]at h
 refine⟨by omega,h2.1,h2.2,?_,by omega,by omega⟩
 intro x hx
 have hs:=List.all_eq_true.1 h.1.2.2 x hx
 unfold okS at hs
 have:=of_decide_eq_true hs
 omega
theorem pwlW_snoc:∀(vs:List (Int×Int)) (ss:List Int) (v:Int×Int) (s:Int),vs.length=ss.length->pwlW (vs++[v]) (ss++[s])=pwlW vs ss++[Lib.itoa s,tx v]
 | [],[],v,s,_=>rfl
 | [],_::_,_,_,h=>by simp at h
 |_::_,[],_,_,h=>by simp at h
 |a::vs,b::ss,v,s,h=>by
  have:=pwlW_snoc vs ss v s (by simpa using h)
  simp only[List.cons_append,pwlW,this]
theorem waveWords_any (kd:Int)(a2 a3:Option Addr)(n2 k2 n3 k3:Nat)(vs:List (Int×Int))(ss:List Int)(w:World)(hL:Lett w)(hT:Tab w)(h1:NSl w (.slice a2 n2 k2) vs)(h2:ISl w (.slice a3 n3 k3) ss) :
  Calls Tryz.prog 158 #[.agg #[.int .i64 kd,.slice a2 n2 k2,.slice a3 n3 k3]] w fun e w'=>Kept w w'/\∃u,e=.returned u/\OwnS w.heap.size w' u (wwords kd vs ss):=by
 have HC0:=hid' (And.intro hL (And.intro hT (And.intro h1 h2)))
 have HLN:=hid' (And.intro h1.len h2.len)
 have hva:=fun V (K:Kept w V)=>valid_any kd a2 a3 n2 k2 n3 k3 vs ss V (h1.kept K) (h2.kept K)
 clear hL hT h1 h2
 obtain⟨i0,hi,hz0,hz1,hz2⟩:=info_parts X.info_str
 cases hok:okW kd vs ss
 ·rw[hok]at hva
  have HWW:=hid' (show wwords kd vs ss=[] by unfold wwords;rw[if_pos hok])
  go_enter Tryz.func158,Tryz.ntmps158
  go_wp2_with fail
  refine(hva _ ((Kept.refl w).alloc _)).mono ?_
  rintro e w1 ⟨hk,rfl⟩
  have HK:=hid' (((Kept.refl w).alloc _).trans hk)
  clear hk hva
  go_wp2_with fail
  go_ret
  exact⟨HK.out,_,rfl,by rw[HWW.out];exact OwnS.nil _ _⟩
 ·rw[hok]at hva
  have hmo:=okW_more hok
  have HOK:=hid' (show 1<=vs.length/\vs.length<=16/\ss.length<=16/\(∀x∈ss,-9223372036854775808<=x/\x<=9223372036854775807) from⟨hmo.1,hmo.2.1,hmo.2.2.1,hmo.2.2.2.1⟩)
  have HOW:=hid' hok
  go_enter Tryz.func158,Tryz.ntmps158
  go_wp2_with fail
  have hK:=(Kept.refl w).alloc (.cells #[.int .i64 kd,.slice a2 n2 k2,.slice a3 n3 k3] 44)
  have hA:=RowL.alloc 44 w [.int .i64 kd,.slice a2 n2 k2,.slice a3 n3 k3]
  generalize w.alloc (.cells #[.int .i64 kd,.slice a2 n2 k2,.slice a3 n3 k3] 44)=W0 at hK hA ⊢
  obtain⟨p,hp⟩:∃q,q=w.heap.size:=⟨_,rfl⟩
  rw[<-hp]at hA ⊢
  have HP:=hid' hp
  refine(hva _ hK).mono ?_
  rintro e w1 ⟨hk1,rfl⟩
  have HW:=hid' (And.intro (hK.trans hk1) (hA.kept hk1))
  have f0:=HW.out.2.cell 0 (.int .i64 kd)
  have f1:=HW.out.2.cell 1 (.slice a2 n2 k2)
  have f2:=HW.out.2.cell 2 (.slice a3 n3 k3)
  clear hK hA hk1 hva hp hok
  rcases hmo.2.2.2.2.1 with rfl|rfl|rfl|rfl
  ·clear hmo
   have e0:=(HW.out.2.kept ((Kept.refl w1).alloc (.cells #[.string ⟨#[100,99]⟩] 9))).cell 0 (.int .i64 1)
   have e1:=(HW.out.2.kept ((Kept.refl w1).alloc (.cells #[.string ⟨#[100,99]⟩] 9))).cell 1 (.slice a2 n2 k2)
   have e2:=(HW.out.2.kept ((Kept.refl w1).alloc (.cells #[.string ⟨#[100,99]⟩] 9))).cell 2 (.slice a3 n3 k3)
   have HWW:=hid' (show wwords 1 vs ss=[[100,99]]++obo vs ss by unfold wwords;rw[if_neg (by rw[HOW.out];decide)];rfl)
   have hobo:=oneByOne_any 1 a2 a3 n2 k2 n3 k3 vs ss
   go_wp2_with fail
   have hLo:=lit_own w1 (w.heap.size+1) ⟨#[100,99]⟩ (by have:=HW.out.2.lt;have:=HP.out;omega)
   have kL:=(Kept.refl w1).alloc (.cells #[.string ⟨#[100,99]⟩] 9)
   obtain⟨gl,hgl⟩:∃q,q=w1.heap.size:=⟨_,rfl⟩
   generalize w1.alloc (.cells #[.string ⟨#[100,99]⟩] 9)=W2 at hLo kL ⊢
   rw[<-hgl]at hLo ⊢
   clear hgl
   have HI:Hid (CwI w W2 p 44 [.int .i64 1,.slice a2 n2 k2,.slice a3 n3 k3] (.slice (some ⟨gl,0,none⟩) 1 1) [[100,99]]):=⟨HW.out.1.trans kL,by rw[HP.out];exact Nat.le_refl _,HW.out.2.kept kL,hLo⟩
   clear hLo kL f0 f1 f2 e0 e1 e2
   refine(hobo _ (HC0.out.1.kept HI.out.kp) (HC0.out.2.1.kept HI.out.kp) (HC0.out.2.2.1.kept HI.out.kp) (HC0.out.2.2.2.kept HI.out.kp) (by have:=HOK.out.2.1;have:=HLN.out.1;omega) (by have:=HOK.out.2.2.1;have:=HLN.out.2;omega) HOK.out.2.2.2).mono ?_
   rintro e w3 ⟨hk3,u,rfl,ou⟩
   have HI:=hid' (HI.out.kept hk3)
   obtain⟨g2,cap2,rfl,_,_,_,hcc,_⟩:=X.OwnS.read ou (by unfold obo;rw[List.length_append,List.length_map];have:=HOK.out.1;omega)
   have hol:(obo vs ss).length<=32:=by unfold obo;rw[List.length_append,List.length_map,List.length_map];have:=HOK.out.2.1;have:=HOK.out.2.2.1;omega
   have hop:0<(obo vs ss).length:=by unfold obo;rw[List.length_append,List.length_map];have:=HOK.out.1;omega
   obtain⟨L,hL⟩:∃L,L=obo vs ss:=⟨_,rfl⟩
   rw[<-hL]at hcc hol hop HWW ⊢
   have HB3:=hid' (show w.heap.size+1<=w3.heap.size by have h1:=HI.out.row.lt;have h2:=HI.out.le;have h3:=HP.out;omega)
   clear hk3 ou hobo hL
   go_wp2_with (at_builtin;refine wpList_append_lies _ rfl (.tmp 47) (.tmp 49) 22 rfl (w.heap.size+1) 9 i0 (.string ByteArray.empty) 1 16 X.und_strs hi hz0 hz1 hz2 rfl (by decide) (.slice (some ⟨gl,0,none⟩) 1 1) 1 (strs [[100,99]]) rfl HI.out.own ⟨g2,0,none⟩ L.length cap2 (strs L) rfl (X.strs_len L) (fun j u hj=>own_news hcc j u hj) (X.strs_one L) hop (by unfold maxLen;omega) (by omega) HB3.out _ rfl ?_)
   intro g4 cap4 W4 own4 hg4 hgg _
   have HI:=hid' (HI.out.add (news:=L) (Kept.refl _) own4 rfl hg4)
   clear own4 hg4 hgg hcc
   go_wp2_with fail
   go_ret
   exact⟨HI.out.kp,_,rfl,by rw[HWW.out];exact own_mono HI.out.own (Nat.le_succ _)⟩
  ·clear hmo
   have e0:=(HW.out.2.kept ((Kept.refl w1).alloc (.cells #[.string ⟨#[112,117,108,115,101]⟩] 9))).cell 0 (.int .i64 2)
   have e1:=(HW.out.2.kept ((Kept.refl w1).alloc (.cells #[.string ⟨#[112,117,108,115,101]⟩] 9))).cell 1 (.slice a2 n2 k2)
   have e2:=(HW.out.2.kept ((Kept.refl w1).alloc (.cells #[.string ⟨#[112,117,108,115,101]⟩] 9))).cell 2 (.slice a3 n3 k3)
   have HWW:=hid' (show wwords 2 vs ss=[[112,117,108,115,101]]++obo vs ss by unfold wwords;rw[if_neg (by rw[HOW.out];decide)];rfl)
   have hobo:=oneByOne_any 2 a2 a3 n2 k2 n3 k3 vs ss
   go_wp2_with fail
   have hLo:=lit_own w1 (w.heap.size+1) ⟨#[112,117,108,115,101]⟩ (by have:=HW.out.2.lt;have:=HP.out;omega)
   have kL:=(Kept.refl w1).alloc (.cells #[.string ⟨#[112,117,108,115,101]⟩] 9)
   obtain⟨gl,hgl⟩:∃q,q=w1.heap.size:=⟨_,rfl⟩
   generalize w1.alloc (.cells #[.string ⟨#[112,117,108,115,101]⟩] 9)=W2 at hLo kL ⊢
   rw[<-hgl]at hLo ⊢
   clear hgl
   have HI:Hid (CwI w W2 p 44 [.int .i64 2,.slice a2 n2 k2,.slice a3 n3 k3] (.slice (some ⟨gl,0,none⟩) 1 1) [[112,117,108,115,101]]):=⟨HW.out.1.trans kL,by rw[HP.out];exact Nat.le_refl _,HW.out.2.kept kL,hLo⟩
   clear hLo kL f0 f1 f2 e0 e1 e2
   refine(hobo _ (HC0.out.1.kept HI.out.kp) (HC0.out.2.1.kept HI.out.kp) (HC0.out.2.2.1.kept HI.out.kp) (HC0.out.2.2.2.kept HI.out.kp) (by have:=HOK.out.2.1;have:=HLN.out.1;omega) (by have:=HOK.out.2.2.1;have:=HLN.out.2;omega) HOK.out.2.2.2).mono ?_
   rintro e w3 ⟨hk3,u,rfl,ou⟩
   have HI:=hid' (HI.out.kept hk3)
   obtain⟨g2,cap2,rfl,_,_,_,hcc,_⟩:=X.OwnS.read ou (by unfold obo;rw[List.length_append,List.length_map];have:=HOK.out.1;omega)
   have hol:(obo vs ss).length<=32:=by unfold obo;rw[List.length_append,List.length_map,List.length_map];have:=HOK.out.2.1;have:=HOK.out.2.2.1;omega
   have hop:0<(obo vs ss).length:=by unfold obo;rw[List.length_append,List.length_map];have:=HOK.out.1;omega
   obtain⟨L,hL⟩:∃L,L=obo vs ss:=⟨_,rfl⟩
   rw[<-hL]at hcc hol hop HWW ⊢
   have HB3:=hid' (show w.heap.size+1<=w3.heap.size by have h1:=HI.out.row.lt;have h2:=HI.out.le;have h3:=HP.out;omega)
   clear hk3 ou hobo hL
   go_wp2_with (at_builtin;refine wpList_append_lies _ rfl (.tmp 13) (.tmp 15) 22 rfl (w.heap.size+1) 9 i0 (.string ByteArray.empty) 1 16 X.und_strs hi hz0 hz1 hz2 rfl (by decide) (.slice (some ⟨gl,0,none⟩) 1 1) 1 (strs [[112,117,108,115,101]]) rfl HI.out.own ⟨g2,0,none⟩ L.length cap2 (strs L) rfl (X.strs_len L) (fun j u hj=>own_news hcc j u hj) (X.strs_one L) hop (by unfold maxLen;omega) (by omega) HB3.out _ rfl ?_)
   intro g4 cap4 W4 own4 hg4 hgg _
   have HI:=hid' (HI.out.add (news:=L) (Kept.refl _) own4 rfl hg4)
   clear own4 hg4 hgg hcc
   go_wp2_with fail
   go_ret
   exact⟨HI.out.kp,_,rfl,by rw[HWW.out];exact own_mono HI.out.own (Nat.le_succ _)⟩
  ·have HL3:=hid' (hmo.2.2.2.2.2 rfl)
   clear hmo
   have HWW:=hid' (show wwords 3 vs ss=[[112,119,108]]++pwlW vs ss by unfold wwords;rw[if_neg (by rw[HOW.out];decide)];rfl)
   have e1:=(HW.out.2.kept ((Kept.refl w1).alloc (.cells #[.string ⟨#[112,119,108]⟩] 9))).cell 1 (.slice a2 n2 k2)
   go_wp2_with fail
   have hLo:=lit_own w1 (w.heap.size+1) ⟨#[112,119,108]⟩ (by have:=HW.out.2.lt;have:=HP.out;omega)
   have kL:=(Kept.refl w1).alloc (.cells #[.string ⟨#[112,119,108]⟩] 9)
   obtain⟨gl,hgl⟩:∃q,q=w1.heap.size:=⟨_,rfl⟩
   generalize w1.alloc (.cells #[.string ⟨#[112,119,108]⟩] 9)=W2 at hLo kL e1 ⊢
   rw[<-hgl]at hLo ⊢
   clear hgl
   have HI0:Hid (CwI w W2 p 44 [.int .i64 3,.slice a2 n2 k2,.slice a3 n3 k3] (.slice (some ⟨gl,0,none⟩) 1 1) ([[112,119,108]]++pwlW (vs.take 0) (ss.take 0))):=⟨HW.out.1.trans kL,by rw[HP.out];exact Nat.le_refl _,HW.out.2.kept kL,hLo⟩
   generalize (Value.slice (some ⟨gl,0,none⟩) 1 1)=u0 at HI0 ⊢
   clear hLo kL f0 f1 f2 e1
   have hn16:n2<=16:=by have:=HOK.out.2.1;have:=HLN.out.1;omega
   go_loopw [3,23] (fun vu vi wr=>∃j:Nat,j<=n2/\vi=.int .i64 (j:Int)/\Hid (CwI w wr p 44 [.int .i64 3,.slice a2 n2 k2,.slice a3 n3 k3] vu ([[112,119,108]]++pwlW (vs.take j) (ss.take j)))) (fun _ vi _=>n2-(intOf vi).toNat)
   case atStart=>exact⟨0,Nat.zero_le _,rfl,HI0.out⟩
   case round=>
    obtain⟨j,hj,rfl,HI⟩:=hrel
    clear HI0
    by_cases hjt:j<n2
    ·have hji:(j:Int)<(n2:Int):=by omega
     have hj3:j<n3:=by have h1:=HL3.out;have h2:=HLN.out;omega
     have hj3i:(j:Int)<(n3:Int):=by omega
     obtain⟨ao',c',hv',hx⟩:=HC0.out.2.2.1.kept HI.out.kp
     simp only[Value.slice.injEq]at hv'
     obtain⟨rfl,hnw0,rfl⟩:=hv'
     clear hnw0
     have hnw:n2=vs.length:=HLN.out.1
     obtain⟨b,off,rfl,hb,hcl⟩:=hx (by omega)
     obtain⟨q0,q1⟩:=hcl j (by omega)
     have hbw:¬b=wr.heap.size:=by omega
     obtain⟨ao2,c2',hv2,hx2⟩:=HC0.out.2.2.2
     simp only[Value.slice.injEq]at hv2
     obtain⟨rfl,hn0,rfl⟩:=hv2
     clear hn0
     have hn3:n3=ss.length:=HLN.out.2
     obtain⟨b3,o3,rfl,hb3,hcl3⟩:=hx2 (by omega)
     have s0:=hcl3 j (by omega)
     have HTK:=hid' (show pwlW (vs.take (j+1)) (ss.take (j+1))=pwlW (vs.take j) (ss.take j)++[Lib.itoa (ss.getD j 0),tx (vs.getD j (0,0))] by
      rw[List.take_succ_eq_append_getElem (by omega),List.take_succ_eq_append_getElem (show j<ss.length by omega),pwlW_snoc _ _ _ _ (by rw[List.length_take,List.length_take];omega)]
      simp[List.getElem?_eq_getElem (show j<ss.length by omega),List.getElem?_eq_getElem (show j<vs.length by omega)])
     have hyb:=HOK.out.2.2.2 (ss.getD j 0) (by rw[List.getD_eq_getElem?_getD,List.getElem?_eq_getElem (show j<ss.length by omega)];exact List.getElem_mem _)
     generalize hy:vs.getD j (0,0)=y at q0 q1 HTK
     generalize hz:ss.getD j 0=z at s0 HTK hyb
     obtain⟨y0,y1⟩:=y
     simp only at q0 q1
     clear hx hcl hnw hy hz hx2 hcl3 hn3
     obtain⟨wk,hwk⟩:∃l,l=[[112,119,108]]++pwlW (vs.take j) (ss.take j):=⟨_,rfl⟩
     rw[<-hwk]at HI
     have HWK:=hid' hwk
     have HLW:=hid' (show wk.length<=100 by rw[hwk,List.length_append];have:=pwlW_len (vs.take j) (ss.take j);rw[List.length_take]at this;simp only[List.length_cons,List.length_nil];omega)
     clear hwk
     have kN:=(Kept.refl wr).alloc (.cells #[.int .i64 y0,.int .i64 y1] 25)
     have hNr:=Q.Row2.alloc 25 wr (.int .i64 y0) (.int .i64 y1)
     have HI:=hid' (HI.out.kept kN)
     go_upto_region 11 with fail
     generalize wr.alloc (.cells #[.int .i64 y0,.int .i64 y1] 25)=W1 at HI hNr ⊢
     obtain⟨qn,hqn⟩:∃q,q=wr.heap.size:=⟨_,rfl⟩
     rw[<-hqn]at hNr ⊢
     clear kN hqn hbw q0 q1
     have HS3:=hid' (And.intro hb3 s0)
     clear hb3 s0
     have sS:=hid' (fun (V:World) (K:CwI w V p 44 [.int .i64 3,.slice (some ⟨b,off,none⟩) n2 k2,.slice (some ⟨b3,o3,none⟩) n3 k3] u3 wk) (R:Q.Row2 25 V qn (.int .i64 y0) (.int .i64 y1))=>And.intro (K.row.cell 2 (.slice (some ⟨b3,o3,none⟩) n3 k3)) (And.intro (show V.cell? ⟨b3,o3+j,none⟩=some (.int .i64 z) from(Below.cell K.kp (p:=⟨b3,o3+j,none⟩) HS3.out.1).trans HS3.out.2) (And.intro R.c0 R.c1)))
     have HNR:=hid' hNr
     clear hNr
     have KT:Kept W1 W1.drew:=(Kept.refl _).drew
     refine wp_region_held_drew (S:=fun w'=>w'.cell? ⟨p,2,none⟩=some (.slice (some ⟨b3,o3,none⟩) n3 k3)/\w'.cell? ⟨b3,o3+j,none⟩=some (.int .i64 z)/\w'.cell? ⟨qn,0,none⟩=some (.int .i64 y0)/\w'.cell? ⟨qn,1,none⟩=some (.int .i64 y1)) (by kernel_rfl) (sS.out _ (HI.out.kept KT) (HNR.out.kept KT)) (fun hHeld=>?_)
     generalize W1.drew=Wd at KT hHeld ⊢
     refine tk 0 hHeld ?_
     refine tk 1 hHeld ?_
     refine tk 2 hHeld ?_
     refine tk 3 hHeld ?_
     refine tk 4 hHeld ?_
     refine tk 5 hHeld ?_
     refine tk 7 hHeld ?_
     refine rdy 6 fun K hK=>?_
     go_simp
     refine(itoa_any z _ hyb.1 hyb.2 (HC0.out.2.1.kept (HI.out.kp.trans KT))).mono ?_
     rintro e w4 ⟨hk4,rfl⟩
     have KT:=KT.trans hk4
     obtain⟨tz,htz⟩:∃t,t=bs (Lib.itoa z):=⟨_,rfl⟩
     rw[<-htz]
     have Htz:=hid' htz
     clear htz
     refine hK.out _ _ (sS.out _ (HI.out.kept KT) (HNR.out.kept KT)) (fun hHeld=>?_)
     clear hK K hk4
     refine rdy 8 fun K hK=>?_
     go_simp
     refine(ctext_any y0 y1 _ (HC0.out.1.kept (HI.out.kp.trans KT)) (HC0.out.2.1.kept (HI.out.kp.trans KT))).mono ?_
     rintro e w5 ⟨hk5,rfl⟩
     have KT:=KT.trans hk5
     obtain⟨ty,hty⟩:∃t,t=bs (tx (y0,y1)):=⟨_,rfl⟩
     rw[<-hty]
     have HTT:=hid' (And.intro Htz.out hty)
     refine hK.out _ _ (sS.out _ (HI.out.kept KT) (HNR.out.kept KT)) (fun hHeld=>?_)
     clear hK K hk5 hty
     refine rdy 9 fun K hK=>?_
     go_simp
     refine hK.out _ _ (sS.out _ (HI.out.kept (KT.alloc _)) (HNR.out.kept (KT.alloc _))) (fun hHeld=>?_)
     clear hK K
     have Hm:=cell_two w5 (.string tz) (.string ty) 9
     have KT:=KT.alloc (.cells #[.string tz,.string ty] 9)
     refine rdy 10 fun K hK=>?_
     refine wp_append_lies _ (.tmp 28) (.tmp 37) 22 rfl (w.heap.size+1) 9 i0 (.string ByteArray.empty) 1 16 X.und_strs hi hz0 hz1 hz2 rfl (by decide) u3 wk.length (strs wk) rfl (HI.out.kept KT).own ⟨w5.heap.size,0,none⟩ 2 2 [.string tz,.string ty] rfl rfl Hm (fun u hu=>by simp at hu;rcases hu with rfl|rfl <;> rfl) (by omega) (by have:=HLW.out;unfold maxLen;omega) (by have:=HLW.out;omega) (by have h1:=(HI.out.kept KT).row.lt;have h2:=HI.out.le;have h3:=HP.out;omega) _ rfl ?_
     intro g4 cap4 W4 own4 hg4 hgg _
     have hNr:=HNR.out.kept KT
     have hqo:u3.ownBlock≠some qn:=own_row (HI.out.kept KT).own hNr (by decide)
     have hNr4:Q.Row2 25 W4 qn (.int .i64 y0) (.int .i64 y1):=World.rowIs.of_block hNr (hg4.block qn hNr.lt (fun e=>hqo e.symm))
     have hI4:=HI.out.add (news:=[tz.data.toList,ty.data.toList]) KT own4 rfl hg4
     have HF:=hid' hI4
     refine hK.out _ _ ⟨hI4.row.cell 2 (.slice (some ⟨b3,o3,none⟩) n3 k3),(Below.cell hI4.kp (p:=⟨b3,o3+j,none⟩) HS3.out.1).trans HS3.out.2,hNr4.c0,hNr4.c1⟩ (fun hHeld=>?_)
     clear hK K own4 hg4 hgg hNr hqo hNr4 hI4 Hm
     refine tk 11 hHeld ?_
     refine dn ?_
     go_wp2_with fail
     go_roundw
     case rel=>
      refine⟨j+1,by omega,by go_num,?_⟩
      rw[HTK.out,<-List.append_assoc,<-HWK.out,<-bs_list (Lib.itoa z),<-HTT.out.1,<-bs_list (tx (y0,y1)),<-HTT.out.2]
      exact HF.out
     case measure=>show n2-((j:Int)+1).toNat<n2-(j:Int).toNat;omega
    ·have hji:¬(j:Int)<(n2:Int):=by omega
     have hjn:n2=j:=by omega
     subst hjn
     rw[List.take_of_length_le (by rw[<-HLN.out.1];exact Nat.le_refl _),List.take_of_length_le (by rw[HL3.out,<-HLN.out.1];exact Nat.le_refl _)]at HI
     go_wp2_with fail
     go_ret
     exact⟨HI.out.kp,_,rfl,by rw[HWW.out];exact own_mono HI.out.own (Nat.le_succ _)⟩
  ·clear hmo
   have e0:=(HW.out.2.kept ((Kept.refl w1).alloc (.cells #[.string ⟨#[116,97,98,108,101]⟩] 9))).cell 0 (.int .i64 4)
   have e1:=(HW.out.2.kept ((Kept.refl w1).alloc (.cells #[.string ⟨#[116,97,98,108,101]⟩] 9))).cell 1 (.slice a2 n2 k2)
   have e2:=(HW.out.2.kept ((Kept.refl w1).alloc (.cells #[.string ⟨#[116,97,98,108,101]⟩] 9))).cell 2 (.slice a3 n3 k3)
   have HWW:=hid' (show wwords 4 vs ss=[[116,97,98,108,101]]++obo vs ss by unfold wwords;rw[if_neg (by rw[HOW.out];decide)];rfl)
   have hobo:=oneByOne_any 4 a2 a3 n2 k2 n3 k3 vs ss
   go_wp2_with fail
   have hLo:=lit_own w1 (w.heap.size+1) ⟨#[116,97,98,108,101]⟩ (by have:=HW.out.2.lt;have:=HP.out;omega)
   have kL:=(Kept.refl w1).alloc (.cells #[.string ⟨#[116,97,98,108,101]⟩] 9)
   obtain⟨gl,hgl⟩:∃q,q=w1.heap.size:=⟨_,rfl⟩
   generalize w1.alloc (.cells #[.string ⟨#[116,97,98,108,101]⟩] 9)=W2 at hLo kL ⊢
   rw[<-hgl]at hLo ⊢
   clear hgl
   have HI:Hid (CwI w W2 p 44 [.int .i64 4,.slice a2 n2 k2,.slice a3 n3 k3] (.slice (some ⟨gl,0,none⟩) 1 1) [[116,97,98,108,101]]):=⟨HW.out.1.trans kL,by rw[HP.out];exact Nat.le_refl _,HW.out.2.kept kL,hLo⟩
   clear hLo kL f0 f1 f2 e0 e1 e2
   refine(hobo _ (HC0.out.1.kept HI.out.kp) (HC0.out.2.1.kept HI.out.kp) (HC0.out.2.2.1.kept HI.out.kp) (HC0.out.2.2.2.kept HI.out.kp) (by have:=HOK.out.2.1;have:=HLN.out.1;omega) (by have:=HOK.out.2.2.1;have:=HLN.out.2;omega) HOK.out.2.2.2).mono ?_
   rintro e w3 ⟨hk3,u,rfl,ou⟩
   have HI:=hid' (HI.out.kept hk3)
   obtain⟨g2,cap2,rfl,_,_,_,hcc,_⟩:=X.OwnS.read ou (by unfold obo;rw[List.length_append,List.length_map];have:=HOK.out.1;omega)
   have hol:(obo vs ss).length<=32:=by unfold obo;rw[List.length_append,List.length_map,List.length_map];have:=HOK.out.2.1;have:=HOK.out.2.2.1;omega
   have hop:0<(obo vs ss).length:=by unfold obo;rw[List.length_append,List.length_map];have:=HOK.out.1;omega
   obtain⟨L,hL⟩:∃L,L=obo vs ss:=⟨_,rfl⟩
   rw[<-hL]at hcc hol hop HWW ⊢
   have HB3:=hid' (show w.heap.size+1<=w3.heap.size by have h1:=HI.out.row.lt;have h2:=HI.out.le;have h3:=HP.out;omega)
   clear hk3 ou hobo hL
   go_wp2_with (at_builtin;refine wpList_append_lies _ rfl (.tmp 43) (.tmp 45) 22 rfl (w.heap.size+1) 9 i0 (.string ByteArray.empty) 1 16 X.und_strs hi hz0 hz1 hz2 rfl (by decide) (.slice (some ⟨gl,0,none⟩) 1 1) 1 (strs [[116,97,98,108,101]]) rfl HI.out.own ⟨g2,0,none⟩ L.length cap2 (strs L) rfl (X.strs_len L) (fun j u hj=>own_news hcc j u hj) (X.strs_one L) hop (by unfold maxLen;omega) (by omega) HB3.out _ rfl ?_)
   intro g4 cap4 W4 own4 hg4 hgg _
   have HI:=hid' (HI.out.add (news:=L) (Kept.refl _) own4 rfl hg4)
   clear own4 hg4 hgg hcc
   go_wp2_with fail
   go_ret
   exact⟨HI.out.kp,_,rfl,by rw[HWW.out];exact own_mono HI.out.own (Nat.le_succ _)⟩
open Q (hid' parseOf Lett ErrV Tab okN textOf)
open X (bs OwnS RS strs bs_list bs_size)
theorem cardWords_wave (a1 a2 a3:Option Addr)(n1 k1 n2 k2 n3 k3:Nat)(c:Cd)(w:World)(hL:Lett w)(hT:Tab w)(hc:CdR w a1 n1 k1 a2 n2 k2 a3 n3 k3 c)(hh:0<c.name.length)(hl:(n1+200)*16<=140737488355328)(hw:waveC (c.name.getD 0 0)=true) :
  Calls Tryz.prog 137 #[cdV c (.slice a1 n1 k1) (.slice a2 n2 k2) (.slice a3 n3 k3)] w fun e w'=>Kept w w'/\∃u,e=.returned u/\OwnS w.heap.size w' u (cwords c):=by
 obtain⟨cn,cnd,cr,⟨cm,cx⟩,ckd,cvs,css⟩:=c
 unfold cdV
 simp only at hh hw ⊢
 have HC:=hid' (And.intro hc (And.intro hL (And.intro hT (And.intro hh hw))))
 have HLN:=hid' (show n1=cnd.length from rs_len hc.nodes)
 obtain⟨s1,hs1⟩:∃s,s=bs cn:=⟨_,rfl⟩
 obtain⟨s3,hs3⟩:∃s,s=bs cr:=⟨_,rfl⟩
 rw[<-hs1,<-hs3]
 have HE:=hid' (And.intro hs1 hs3)
 clear hs1 hs3 hc hL hT hh hw
 obtain⟨i0,hi,hz0,hz1,hz2⟩:=info_parts X.info_str
 go_enter Tryz.func137,Tryz.ntmps137
 go_wp2_with fail
 have hK:=(Kept.refl w).alloc (.cells #[.string s1,.slice a1 n1 k1,.string s3,.int .i64 cm,.int .i64 cx,.int .i64 ckd,.slice a2 n2 k2,.slice a3 n3 k3] 110)
 have hA:=RowL.alloc 110 w [.string s1,.slice a1 n1 k1,.string s3,.int .i64 cm,.int .i64 cx,.int .i64 ckd,.slice a2 n2 k2,.slice a3 n3 k3]
 generalize w.alloc (.cells #[.string s1,.slice a1 n1 k1,.string s3,.int .i64 cm,.int .i64 cx,.int .i64 ckd,.slice a2 n2 k2,.slice a3 n3 k3] 110)=W0 at hK hA ⊢
 obtain⟨p,hp⟩:∃q,q=w.heap.size:=⟨_,rfl⟩
 rw[<-hp]at hA ⊢
 refine(anew_any s1 _).mono ?_
 rintro e w1 ⟨hk1,rfl⟩
 have hA:=hA.kept hk1
 have f1:=hA.cell 1 (.slice a1 n1 k1)
 have f1':=(hA.kept ((Kept.refl w1).alloc (.cells #[.string s1] 9))).cell 1 (.slice a1 n1 k1)
 have HP:=hid' hp
 have HW:=hid' (And.intro (hK.trans hk1) hA)
 clear hK hA hk1 hp
 go_wp2_with fail
 have HI0:Hid (CwI w _ p 110 [.string s1,.slice a1 n1 k1,.string s3,.int .i64 cm,.int .i64 cx,.int .i64 ckd,.slice a2 n2 k2,.slice a3 n3 k3] (.slice (some ⟨w1.heap.size,0,none⟩) 1 1) [s1.data.toList]):=⟨HW.out.1.alloc (.cells #[.string s1] 9),by rw[HP.out];exact Nat.le_refl _,HW.out.2.kept ((Kept.refl w1).alloc (.cells #[.string s1] 9)),lit_own w1 _ s1 (by have:=HW.out.2.lt;have:=HP.out;omega)⟩
 generalize w1.alloc (.cells #[.string s1] 9)=W1 at HI0 f1' ⊢
 generalize (Value.slice (some ⟨w1.heap.size,0,none⟩) 1 1)=u0 at HI0 ⊢
 go_loopw [3,14] (fun vu vi wr=>∃k:Nat,k<=n1/\vi=.int .i64 (k:Int)/\Hid (CwI w wr p 110 [.string s1,.slice a1 n1 k1,.string s3,.int .i64 cm,.int .i64 cx,.int .i64 ckd,.slice a2 n2 k2,.slice a3 n3 k3] vu ([s1.data.toList]++cnd.take k))) (fun _ vi _=>n1-(intOf vi).toNat)
 case atStart=>exact⟨0,Nat.zero_le _,rfl,by rw[List.take_zero,List.append_nil];exact HI0.out⟩
 case round=>
  obtain⟨k,hk,rfl,HI⟩:=hrel
  clear HI0
  by_cases hkt:k<n1
  ·have hki:(k:Int)<(n1:Int):=by omega
   obtain⟨ao',c',hv',hx⟩:=HC.out.1.nodes.kept HI.out.kp
   simp only[Value.slice.injEq]at hv'
   obtain⟨rfl,hnw0,rfl⟩:=hv'
   clear hnw0
   have hnw:n1=cnd.length:=HLN.out
   obtain⟨b,off,rfl,hb,hcl⟩:=hx (show 0<cnd.length by omega)
   have q0:wr.cell? ⟨b,off+k,none⟩=some (.string (bs (cnd.getD k []))):=hcl k (show k<cnd.length by omega)
   obtain⟨sk,hsk⟩:∃s,s=bs (cnd.getD k []):=⟨_,rfl⟩
   rw[<-hsk]at q0
   have HTK:=hid' (show [s1.data.toList]++cnd.take k++[sk.data.toList]=[s1.data.toList]++cnd.take (k+1) by
    rw[hsk,bs_list,List.append_assoc,List.take_succ_eq_append_getElem (by omega)]
    simp[List.getElem?_eq_getElem (show k<cnd.length by omega)])
   obtain⟨wk,hwk⟩:∃l,l=[s1.data.toList]++cnd.take k:=⟨_,rfl⟩
   rw[<-hwk]at HI HTK
   have HLW:=hid' (show wk.length<=n1+1 by rw[hwk,List.length_append,List.length_take];simp;omega)
   clear hx hcl hnw hsk hwk
   go_wp2_with fail
   refine(anew_any sk _).mono ?_
   rintro e w2 ⟨hk2,rfl⟩
   have HI:=hid' (HI.out.kept hk2)
   clear hk2
   have KA:=(Kept.refl w2).alloc (.cells #[.string sk] 9)
   go_wp2_with (at_builtin;refine wpList_append_lies _ rfl (.tmp 18) (.tmp 21) 22 rfl (w.heap.size+1) 9 i0 (.string ByteArray.empty) 1 16 X.und_strs hi hz0 hz1 hz2 rfl (by decide) u3 wk.length (strs wk) rfl (by exact(HI.out.kept KA).own) ⟨w2.heap.size,0,none⟩ 1 1 [.string sk] rfl rfl (X.cell_new w2 _ _) (fun u hu=>by simp at hu;subst hu;rfl) (by omega) (by have:=HLW.out;unfold maxLen;omega) (by have:=HLW.out;omega) (by have:=HI.out.kp.size;have:=HI.out.row.lt;have:=HI.out.le;have:=HP.out;simp;omega) _ rfl ?_)
   intro g4 cap4 W4 own4 hg4 hgg _
   have HI:=hid' (HI.out.add (news:=[sk.data.toList]) KA own4 rfl hg4)
   clear own4 hg4 hgg KA
   go_wp2_with fail
   go_roundw
   case rel=>exact⟨k+1,by omega,by go_num,by rw[<-HTK.out];exact HI.out⟩
   case measure=>show n1-((k:Int)+1).toNat<n1-(k:Int).toNat;omega
  ·have hki:¬(k:Int)<(n1:Int):=by omega
   obtain rfl:k=n1:=by omega
   rw[List.take_of_length_le (by rw[<-HLN.out];exact Nat.le_refl _)]at HI
   have f0:=HI.out.row.cell 0 (.string s1)
   have hs1:0<s1.size:=by rw[HE.out.1,bs_size];exact HC.out.2.2.2.1
   have hs1':(0:Int)<(s1.size:Int):=by omega
   have HQ:=hid' (show s1[0]=cn.getD 0 0 from head_of hs1 HE.out.1)
   have HCW:=hid' (show cwords ⟨cn,cnd,cr,(cm,cx),ckd,cvs,css⟩=[s1.data.toList]++cnd++(if refC s1[0]=true then [cr] else [])++(if valueC s1[0]=true then [tx (cm,cx)] else [])++(if waveC s1[0]=true then wwords ckd cvs css else []) by
    unfold cwords
    rw[HQ.out,HE.out.1,bs_list])
   go_wp2_with fail
   refine(among_is s1[0] ⟨#[102,104,100,115,120]⟩ [102,104,100,115,120] _ rfl).mono ?_
   rintro e w2 ⟨rfl,rfl⟩
   rw[show decide (s1[0]∈([102,104,100,115,120]:List UInt8))=refC s1[0] from rfl]
   have hw1:waveC s1[0]=true:=by rw[HQ.out];exact HC.out.2.2.2.2
   have hr1:refC s1[0]=false:=by
    cases h:refC s1[0]
    ·rfl
    ·rw[wave_not s1[0] (.inl h)]at hw1;cases hw1
   have hv1:valueC s1[0]=false:=by
    cases h:valueC s1[0]
    ·rfl
    ·rw[wave_not s1[0] (.inr h)]at hw1;cases hw1
   rw[hr1]
   have f5:=HI.out.row.cell 5 (.int .i64 ckd)
   have f6:=HI.out.row.cell 6 (.slice a2 n2 k2)
   have f7:=HI.out.row.cell 7 (.slice a3 n3 k3)
   have HFW:=hid' (show cwords ⟨cn,cnd,cr,(cm,cx),ckd,cvs,css⟩=([s1.data.toList]++cnd)++wwords ckd cvs css by rw[HCW.out,hr1,hv1,hw1];simp)
   have hww:=waveWords_any ckd a2 a3 n2 k2 n3 k3 cvs css
   have hwl:=wwords_len ckd cvs css
   generalize wwords ckd cvs css=W5 at hww hwl HFW
   obtain⟨L0,hL0⟩:∃l,l=[s1.data.toList]++cnd:=⟨_,rfl⟩
   rw[<-hL0]at HI HFW
   have HLW:=hid' (show L0.length<=k+1 by rw[hL0,List.length_append,<-HLN.out];simp only[List.length_cons,List.length_nil];omega)
   have hLp:0<L0.length:=by rw[hL0];simp
   clear hL0 HCW
   go_wp2_with fail
   refine(among_is s1[0] ⟨#[114,99,108,101,103,102,104,116]⟩ [114,99,108,101,103,102,104,116] _ rfl).mono ?_
   rintro e WV ⟨rfl,rfl⟩
   rw[show decide (s1[0]∈([114,99,108,101,103,102,104,116]:List UInt8))=valueC s1[0] from rfl,hv1]
   go_wp2_with fail
   refine(among_is s1[0] ⟨#[118,105]⟩ [118,105] _ rfl).mono ?_
   rintro e WW ⟨rfl,rfl⟩
   rw[show decide (s1[0]∈([118,105]:List UInt8))=waveC s1[0] from rfl,hw1]
   go_wp2_with fail
   refine(hww _ (HC.out.2.1.kept HI.out.kp) (HC.out.2.2.1.kept HI.out.kp) (HC.out.1.vals.kept HI.out.kp) (HC.out.1.steps.kept HI.out.kp)).mono ?_
   rintro e wz ⟨hkz,u,rfl,ou⟩
   have HI:=hid' (HI.out.kept hkz)
   have HB3:=hid' (show w.heap.size+1<=wz.heap.size by have h1:=HI.out.row.lt;have h2:=HI.out.le;have h3:=HP.out;omega)
   clear hkz hww f0 f5 f6 f7
   obtain⟨m,hm⟩:∃m,m=W5.length:=⟨_,rfl⟩
   by_cases hm0:0<W5.length
   ·obtain⟨g2,cap2,rfl,_,_,_,hcc,_⟩:=X.OwnS.read ou hm0
    rw[<-hm]at hm0 hwl ⊢
    have HNW:=hid' (show (strs W5).length=m*1 by rw[hm];exact X.strs_len W5)
    have HOW:=hid' hm
    clear ou hm
    go_wp2_with (at_builtin;refine wpList_append_lies _ rfl (.tmp 45) (.tmp 48) 22 rfl (w.heap.size+1) 9 i0 (.string ByteArray.empty) 1 16 X.und_strs hi hz0 hz1 hz2 rfl (by decide) u3 L0.length (strs L0) rfl HI.out.own ⟨g2,0,none⟩ m cap2 (strs W5) rfl HNW.out (fun j u hj=>own_news hcc j u hj) (X.strs_one W5) hm0 (by have:=HLW.out;unfold maxLen;omega) (by have:=HLW.out;omega) HB3.out _ rfl ?_)
    intro g4 cap4 W4 own4 hg4 hgg _
    have HI:=hid' (HI.out.add (news:=W5) (Kept.refl _) own4 (by rw[HOW.out]) hg4)
    clear own4 hg4 hgg hcc
    go_wp2_with fail
    go_ret
    exact⟨HI.out.kp,_,rfl,by rw[HFW.out];exact own_mono HI.out.own (Nat.le_succ _)⟩
   ·obtain⟨g0,c0,hu3,_,_,hcap,_,_⟩:=X.OwnS.read HI.out.own hLp
    obtain⟨ao,cc,hu⟩:=own_shape ou
    have hW0:W5=[]:=List.eq_nil_of_length_eq_zero (by omega)
    subst hW0
    subst hu
    clear ou hm hm0 hwl
    obtain⟨nl,hnl⟩:∃q,q=L0.length:=⟨_,rfl⟩
    rw[<-hnl]at hu3 hcap
    subst hu3
    have HNL:=hid' hnl
    have HO:=hid' (show wz.ownsRow (w.heap.size+1) 9 1 (.slice (some ⟨g0,0,none⟩) nl c0) nl (strs L0) by have h1:=HI.out.own;unfold OwnS at h1;rw[<-hnl]at h1;exact h1)
    clear hnl
    go_wp2_with (at_builtin;refine X.list_app rfl (.tmp 45) (.tmp 48) 22 rfl (w.heap.size+1) 9 i0 (.string ByteArray.empty) 1 16 X.und_strs hi hz0 hz1 hz2 rfl (by decide) g0 nl c0 (strs L0) rfl HO.out hcap ao 0 cc [] rfl rfl (fun h0=>absurd h0 (by decide)) (by simp) (by have h1:=HLW.out;have h2:=HNL.out;unfold maxLen;omega) (by have h1:=HLW.out;have h2:=HNL.out;omega) HB3.out ?_)
    intro g4 cap4 W4 own4 hg4 hgg
    have hg4':wz.grownBy W4 (Value.slice (some ⟨g0,0,none⟩) nl c0).ownBlock:=hg4
    have own5:W4.ownsRow (w.heap.size+1) 9 1 (.slice (some ⟨g4,0,none⟩) nl cap4) nl (strs L0++strs []):=by rw[show strs ([]:List (List UInt8))=[] from rfl,List.append_nil];exact own4
    have HI:=hid' (HI.out.add (news:=[]) (Kept.refl _) own5 (by rw[HNL.out];rfl) hg4')
    clear own4 own5 hg4 hgg hg4'
    go_wp2_with fail
    go_ret
    exact⟨HI.out.kp,_,rfl,by rw[HFW.out];exact own_mono HI.out.own (Nat.le_succ _)⟩
open Q (hid' parseOf Lett ErrV Tab okN textOf)
open X (bs OwnS RS strs bs_list bs_size)
def WrIs (B:Nat)(w:World)(e:Ending):Option (List (List UInt8))->Prop
 |none=>e=.returned (.tuple #[.slice none 0 0,.int .i64 70])
 |some ws=>∃u,e=.returned (.tuple #[u,.int .i64 0])/\OwnS B w u ws
def writeB (c:Cd)(ws:List (List UInt8)):Except Int Cd->Option (List (List UInt8))
 | .ok d=>if d=c then some ws else none
 | .error _=>none
theorem writeC_dev {c:Cd}(h:devB c.name=true):writeC c=writeB c (cwords c) (readC (cwords c)):=by
 unfold writeC
 rw[if_pos h]
 cases readC (cwords c) <;> rfl
theorem len_max {B:Nat}{w:World}{e:TypeId}{sz n:Nat}{v:Value}{xs:List Value}(h:w.ownsRow B e sz v n xs):n<=9223372036854775807:=by
 obtain⟨_,⟨_,h3⟩|⟨g,cap,cur,h2,_,_,hn,hm,_⟩⟩:=h
 ·omega
 ·exact Nat.le_trans hn hm
theorem own_cap {B:Nat}{w:World}{v:Value}{ws:List (List UInt8)}(h:OwnS B w v ws):∃ao cap,v=.slice ao ws.length cap/\ws.length<=cap/\cap<=9223372036854775807:=by
 obtain⟨_,⟨h2,h3⟩|⟨g,cap,cur,h2,_,_,hn,hm,_⟩⟩:=h
 ·exact⟨none,0,by rw[h2,h3],by omega,by omega⟩
 ·exact⟨_,_,h2,hn,hm⟩
open Q (hid' parseOf Lett ErrV Tab okN textOf)
open X (bs OwnS RS strs bs_list bs_size)
theorem cardWords_any (a1 a2 a3:Option Addr)(n1 k1 n2 k2 n3 k3:Nat)(c:Cd)(w:World)(hL:Lett w)(hT:Tab w)(hc:CdR w a1 n1 k1 a2 n2 k2 a3 n3 k3 c)(hh:0<c.name.length)(hl:(n1+200)*16<=140737488355328) :
  Calls Tryz.prog 137 #[cdV c (.slice a1 n1 k1) (.slice a2 n2 k2) (.slice a3 n3 k3)] w fun e w'=>Kept w w'/\∃u,e=.returned u/\OwnS w.heap.size w' u (cwords c):=by
 cases hw:waveC (c.name.getD 0 0)
 ·exact cardWords_plain a1 a2 a3 n1 k1 n2 k2 n3 k3 c w hL hT hc hh hl hw
 ·exact cardWords_wave a1 a2 a3 n1 k1 n2 k2 n3 k3 c w hL hT hc hh hl hw
theorem write_any (a1 a2 a3:Option Addr)(n1 k1 n2 k2 n3 k3:Nat)(c:Cd)(w:World)(hL:Lett w)(hE:ErrV w)(hT:Tab w)(hc:CdR w a1 n1 k1 a2 n2 k2 a3 n3 k3 c)(hl:(n1+200)*16<=140737488355328)(hs:∀x∈cwords c,x.length<=9223372036854775807)(hsn:c.name.length<=9223372036854775807) :
  Calls Tryz.prog 103 #[cdV c (.slice a1 n1 k1) (.slice a2 n2 k2) (.slice a3 n3 k3)] w fun e w'=>Kept w w'/\WrIs w.heap.size w' e (writeC c):=by
 have HC:=hid' (And.intro hc (And.intro hL (And.intro hT (And.intro hE (And.intro trivial hs)))))
 obtain⟨r,hr⟩:∃r,r=writeC c:=⟨_,rfl⟩
 rw[<-hr]
 have HR:=hid' hr
 have hdev:=fun V=>cdev_any (bs c.name) V (by rw[bs_size];exact hsn)
 rw[bs_list]at hdev
 have hcw:=fun V (K:Kept w V) (hh:0<c.name.length)=>cardWords_any a1 a2 a3 n1 k1 n2 k2 n3 k3 c V (hL.kept K) (hT.kept K) (hc.kept K) hh hl
 clear hr hc hL hE hT hs hsn
 obtain⟨cn,cnd,cr,⟨cm,cx⟩,ckd,cvs,css⟩:=c
 unfold cdV at hcw ⊢
 simp only at hdev hcw ⊢
 obtain⟨s1,hs1⟩:∃s,s=bs cn:=⟨_,rfl⟩
 obtain⟨s3,hs3⟩:∃s,s=bs cr:=⟨_,rfl⟩
 rw[<-hs1,<-hs3]at hcw ⊢
 rw[<-hs1]at hdev
 have HE:=hid' (And.intro hs1 hs3)
 clear hs1 hs3
 cases hd:devB cn
 ·rw[hd]at hdev
  have HF:=hid' (show r=none by rw[HR.out];unfold writeC;rw[if_neg (by rw[hd];decide)])
  clear hcw
  go_enter Tryz.func103,Tryz.ntmps103
  go_wp2_with fail
  refine(hdev _).mono ?_
  rintro e w1 ⟨rfl,rfl⟩
  go_wp2_with fail
  go_ret2
  exact⟨(Kept.refl _).alloc _,by rw[HF.out];rfl⟩
 ·rw[hd]at hdev
  have hh:0<cn.length:=by
   have h1:=dev_pos (s:=bs cn) (by rw[bs_list];exact hd)
   rwa [bs_size]at h1
  have HD:=hid' hd
  have hcw2:=fun V (K:Kept w V)=>hcw V K hh
  clear hcw hd hh
  go_enter Tryz.func103,Tryz.ntmps103
  go_wp2_with fail
  refine(hdev _).mono ?_
  rintro e w1 ⟨rfl,rfl⟩
  go_wp2_with fail
  have hK:=(Kept.refl w).alloc (.cells #[.string s1,.slice a1 n1 k1,.string s3,.int .i64 cm,.int .i64 cx,.int .i64 ckd,.slice a2 n2 k2,.slice a3 n3 k3] 110)
  have hA:=RowL.alloc 110 w [.string s1,.slice a1 n1 k1,.string s3,.int .i64 cm,.int .i64 cx,.int .i64 ckd,.slice a2 n2 k2,.slice a3 n3 k3]
  generalize w.alloc (.cells #[.string s1,.slice a1 n1 k1,.string s3,.int .i64 cm,.int .i64 cx,.int .i64 ckd,.slice a2 n2 k2,.slice a3 n3 k3] 110)=W0 at hK hA ⊢
  obtain⟨p,hp⟩:∃q,q=w.heap.size:=⟨_,rfl⟩
  rw[<-hp]at hA ⊢
  clear hp
  refine(hcw2 _ hK).mono ?_
  rintro e w2 ⟨hk2,u,rfl,ou⟩
  obtain⟨ao,cap,rfl,hcap,hcap2⟩:=own_cap ou
  have HW:=hid' (And.intro (hK.trans hk2) (And.intro (hA.kept hk2) (And.intro (own_mono ou hK.size) ou)))
  have hrd:=readC_any ao (cwords ⟨cn,cnd,cr,(cm,cx),ckd,cvs,css⟩).length cap (cwords ⟨cn,cnd,cr,(cm,cx),ckd,cvs,css⟩) w2 (HC.out.2.1.kept HW.out.1) (HC.out.2.2.2.1.kept HW.out.1) (X.OwnS.rs ou) hcap hcap2 HC.out.2.2.2.2.2
  have HR2:=hid' (show r=writeB ⟨cn,cnd,cr,(cm,cx),ckd,cvs,css⟩ (cwords ⟨cn,cnd,cr,(cm,cx),ckd,cvs,css⟩) (readC (cwords ⟨cn,cnd,cr,(cm,cx),ckd,cvs,css⟩)) from HR.out.trans (writeC_dev HD.out))
  generalize hws:cwords ⟨cn,cnd,cr,(cm,cx),ckd,cvs,css⟩=ws at hrd HW HR2 ⊢
  obtain⟨n,hn⟩:∃n,n=ws.length:=⟨_,rfl⟩
  rw[<-hn]at hrd HW ⊢
  have HNN:=hid' hn
  generalize hrc:readC ws=rc at hrd HR2
  clear hK hA hk2 ou hcw2 hdev hws hn hcap hcap2 hrc
  go_wp2_with fail
  refine hrd.mono ?_
  rintro e w3 ⟨hk3,hres⟩
  clear hrd
  have HW:=hid' (And.intro (HW.out.1.trans hk3) (And.intro (HW.out.2.1.kept hk3) (own_kept HW.out.2.2.1 (fun b hb=>hk3.block b (HW.out.2.2.1.lt b hb).2))))
  clear hk3
  cases rc with
  |error x=>
   obtain⟨rfl,hx0⟩:=hres
   have hx0':(x == 0)=false:=by simpa using hx0
   unfold zeroCd
   have HF:=hid' (show r=none from HR2.out)
   go_wp2_with fail
   go_ret2
   exact⟨HW.out.1.alloc _,by rw[HF.out];rfl⟩
  |ok d=>
   obtain⟨v,rfl,nv,xv,sv,rfl,o1,o2,o3⟩:=hres
   obtain⟨b1,l1,rfl⟩:=own_shape o1
   obtain⟨b2,l2,rfl⟩:=own_shape o2
   obtain⟨b3,l3,rfl⟩:=own_shape o3
   have hsm:=fun V (K:Kept w3 V)=>csame_any b1 b2 b3 a1 a2 a3 d.nodes.length l1 d.vals.length l2 d.steps.length l3 n1 k1 n2 k2 n3 k3 d ⟨cn,cnd,cr,(cm,cx),ckd,cvs,css⟩ V ⟨(X.OwnS.rs o1).kept K,(OwnN.nsl o2).kept K,(OwnI.isl o3).kept K⟩ (HC.out.1.kept (HW.out.1.trans K)) (len_max o1) (len_max o2) (len_max o3)
   have HR3:=hid' (show r=if d=⟨cn,cnd,cr,(cm,cx),ckd,cvs,css⟩ then some ws else none from HR2.out)
   generalize hdc:decide (d=⟨cn,cnd,cr,(cm,cx),ckd,cvs,css⟩)=bb at hsm
   have HDC:=hid' hdc
   clear hdc o1 o2 o3
   obtain⟨dn,dnd,dr,⟨dm,dx⟩,dkd,dvs,dss⟩:=d
   unfold cdV at hsm ⊢
   simp only at hsm ⊢
   rw[<-HE.out.1,<-HE.out.2]at hsm
   generalize bs dn=t1 at hsm ⊢
   generalize bs dr=t3 at hsm ⊢
   generalize dnd.length=d1 at hsm ⊢
   generalize dvs.length=d2 at hsm ⊢
   generalize dss.length=d3 at hsm ⊢
   have kB:=(Kept.refl w3).alloc (.cells #[.string t1,.slice b1 d1 l1,.string t3,.int .i64 dm,.int .i64 dx,.int .i64 dkd,.slice b2 d2 l2,.slice b3 d3 l3] 110)
   have hA:=HW.out.2.1.kept kB
   have g0:=hA.cell 0 (.string s1)
   have g1:=hA.cell 1 (.slice a1 n1 k1)
   have g2:=hA.cell 2 (.string s3)
   have g3:=hA.cell 3 (.int .i64 cm)
   have g4:=hA.cell 4 (.int .i64 cx)
   have g5:=hA.cell 5 (.int .i64 ckd)
   have g6:=hA.cell 6 (.slice a2 n2 k2)
   have g7:=hA.cell 7 (.slice a3 n3 k3)
   clear hA
   cases bb
   ·have HF:=hid' (show r=none by rw[HR3.out,if_neg (of_decide_eq_false HDC.out)])
    go_wp2_with fail
    refine(hsm _ kB).mono ?_
    rintro e w4 ⟨hk4,rfl⟩
    have HK:=hid' (HW.out.1.trans (kB.trans hk4))
    clear hsm kB hk4 g0 g1 g2 g3 g4 g5 g6 g7
    go_wp2_with fail
    go_ret2
    exact⟨HK.out,by rw[HF.out];rfl⟩
   ·have HF:=hid' (show r=some ws by rw[HR3.out,if_pos (of_decide_eq_true HDC.out)])
    go_wp2_with fail
    refine(hsm _ kB).mono ?_
    rintro e w4 ⟨hk4,rfl⟩
    have HK:=hid' (And.intro (HW.out.1.trans (kB.trans hk4)) (own_kept HW.out.2.2 (fun b hb=>(kB.trans hk4).block b (HW.out.2.2.lt b hb).2)))
    clear hsm kB hk4 g0 g1 g2 g3 g4 g5 g6 g7
    go_wp2_with fail
    go_ret2
    exact⟨HK.out.1,by rw[HF.out];exact⟨_,rfl,by unfold OwnS;rw[<-HNN.out];exact HK.out.2⟩⟩
open Q (hid' parseOf Lett ErrV Tab okN textOf)
open X (bs OwnS RS strs bs_list bs_size)
def mw (gs vs:List (Int×Int)):Nat->List (List UInt8)
 |0=>[]
 |k+1=>mw gs vs k++(if k=0 then [] else [tx (vs.getD (k-1) (0,0))])++[tx (gs.getD k (0,0))]
def mwords (m:Md):List (List UInt8):=[[46,109,111,100,101,108],m.name,[m.kind.toNat.toUInt8]]++mw m.gs m.vs m.gs.length
theorem mw_len (gs vs:List (Int×Int)):∀k,(mw gs vs k).length<=2*k
 |0=>Nat.le_refl _
 |k+1=>by
  have:=mw_len gs vs k
  rw[mw,List.length_append,List.length_append]
  split <;> simp only[List.length_cons,List.length_nil] <;> omega
def WmIs (B:Nat)(w:World)(e:Ending)(m:Md):Prop :=
 (okM m.name m.kind m.gs m.vs=false/\e=.returned (.tuple #[.slice none 0 0,.int .i64 50]))∨(okM m.name m.kind m.gs m.vs=true/\∃u,e=.returned (.tuple #[u,.int .i64 0])/\OwnS B w u (mwords m))
theorem okM_kind {s:List UInt8}{k:Int}{gs vs:List (Int×Int)}(h:okM s k gs vs=true):(k=100∨k=115)/\gs.length=vs.length+1/\gs.length<=4/\s.length<=16:=by
 unfold okM at h
 simp only[Bool.and_eq_true]at h
 have h1:=h.1.1.1.2
 have h2:=okName_len h.1.1.1.1
 unfold fitsM at h1
 split at h1
 ·rename_i e;have:=of_decide_eq_true h1;exact⟨.inl e,this.1,this.2,h2⟩
 ·split at h1
  ·rename_i e;have:=of_decide_eq_true h1;exact⟨.inr e,by omega,by omega,h2⟩
  ·cases h1
theorem str_one (k:Int):strOfNums [k]=⟨#[k.toNat.toUInt8]⟩:=rfl
theorem lit3_own (w:World)(B:Nat)(s t u:ByteArray)(hB:B<=w.heap.size):OwnS B (w.alloc (.cells #[.string s,.string t,.string u] 9)) (.slice (some ⟨w.heap.size,0,none⟩) 3 3) [s.data.toList,t.data.toList,u.data.toList]:=by
 refine⟨rfl,.inr ⟨w.heap.size,3,#[.string s,.string t,.string u],rfl,hB,?_,Nat.le_refl _,by unfold maxLen;omega,rfl,rfl⟩⟩
 show (w.heap.push _)[w.heap.size]?=_
 simp
theorem writeM_any (s:ByteArray)(k:Int)(a1 a2:Option Addr)(n c n2 c2:Nat)(gs vs:List (Int×Int))(w:World)(hL:Lett w)(hT:Tab w)(hs:s.size<=9223372036854775807)(h1:NSl w (.slice a1 n c) gs)(h2:NSl w (.slice a2 n2 c2) vs)(hn:n<=4611686018427387903)(hm:n2<=4611686018427387903) :
  Calls Tryz.prog 93 #[.agg #[.string s,.int .u8 k,.slice a1 n c,.slice a2 n2 c2]] w fun e w'=>Kept w w'/\WmIs w.heap.size w' e ⟨s.data.toList,k,gs,vs⟩:=by
 have HC0:=hid' (And.intro hL (And.intro hT (And.intro h1 h2)))
 have hva:=fun V (K:Kept w V)=>validM_any s k a1 a2 n c n2 c2 gs vs V hs (h1.kept K) (h2.kept K) hn hm
 have HLN:=hid' (And.intro h1.len h2.len)
 clear hL hT h1 h2
 obtain⟨i0,hi,hz0,hz1,hz2⟩:=info_parts X.info_str
 cases hok:okM s.data.toList k gs vs
 ·rw[hok]at hva
  have HOK:=hid' hok
  go_enter Tryz.func93,Tryz.ntmps93
  go_wp2_with fail
  refine(hva _ ((Kept.refl w).alloc _)).mono ?_
  rintro e w1 ⟨hk,rfl⟩
  have HK:=hid' (((Kept.refl w).alloc _).trans hk)
  clear hk hva
  go_wp2_with fail
  go_ret2
  exact⟨HK.out,.inl ⟨HOK.out,rfl⟩⟩
 ·rw[hok]at hva
  have HOK:=hid' (And.intro hok (okM_kind hok))
  clear hok
  go_enter Tryz.func93,Tryz.ntmps93
  go_wp2_with fail
  have hK:=(Kept.refl w).alloc (.cells #[.string s,.int .u8 k,.slice a1 n c,.slice a2 n2 c2] 46)
  have hA:=RowL.alloc 46 w [.string s,.int .u8 k,.slice a1 n c,.slice a2 n2 c2]
  generalize w.alloc (.cells #[.string s,.int .u8 k,.slice a1 n c,.slice a2 n2 c2] 46)=W0 at hK hA ⊢
  refine(hva _ hK).mono ?_
  rintro e w1 ⟨hk1,rfl⟩
  obtain⟨p,hp⟩:∃q,q=w.heap.size:=⟨_,rfl⟩
  rw[<-hp]at hA ⊢
  have HP:=hid' hp
  have HW:=hid' (And.intro (hK.trans hk1) (hA.kept hk1))
  clear hK hA hk1 hva hp
  go_upto_region 3 with fail
  go_cut [4] (fun v4 wc=>∃g,v4=.slice (some ⟨g,0,none⟩) 3 3/\Hid (Kept w1 wc/\OwnS (w.heap.size+1) wc (.slice (some ⟨g,0,none⟩) 3 3) [[46,109,111,100,101,108],s.data.toList,[k.toNat.toUInt8]]))
  case first=>
   have sS:=hid' (fun (V:World) (K:Kept w1 V)=>And.intro ((HW.out.2.kept K).cell 0 (.string s)) ((HW.out.2.kept K).cell 1 (.int .u8 k)))
   have KT:Kept w1 w1.drew:=(Kept.refl _).drew
   refine wp_region_held_drew (S:=fun w'=>w'.cell? ⟨p,0,none⟩=some (.string s)/\w'.cell? ⟨p,1,none⟩=some (.int .u8 k)) (by kernel_rfl) (sS.out _ KT) (fun hHeld=>?_)
   generalize w1.drew=Wd at KT hHeld ⊢
   refine tk 0 hHeld ?_
   refine tk 1 hHeld ?_
   refine tk 3 hHeld ?_
   refine tk 4 hHeld ?_
   refine wpAnyH_ready (rs:=[2,5]) (by kernel_rfl) (by simp) ?_
   refine AllReadyH.cons rfl (fun K hK=>?_) (AllReadyH.cons rfl (fun K hK=>?_) AllReadyH.nil)
   ·go_simp
    refine(anew_any s _).mono ?_
    rintro e w2 ⟨hk2,rfl⟩
    have KT:=KT.trans hk2
    refine hK.out _ _ (sS.out _ KT) (fun hHeld=>?_)
    clear hK K hk2
    refine rdy 5 fun K hK=>?_
    go_simp
    refine hK.out _ _ (sS.out _ (KT.alloc _)) (fun hHeld=>?_)
    clear hK K
    have HBc:(w2.alloc (.cells #[.int .u8 k] 5)).cell? ⟨w2.heap.size,0,none⟩=some (.int .u8 k):=by simp
    have KT:=KT.alloc (.cells #[.int .u8 k] 5)
    obtain⟨gb,hgb⟩:∃q,q=w2.heap.size:=⟨_,rfl⟩
    have hgl:w2.heap.size<(w2.alloc (.cells #[.int .u8 k] 5)).heap.size:=by simp
    rw[<-hgb]at HBc hgl ⊢
    generalize w2.alloc (.cells #[.int .u8 k] 5)=WB at KT HBc hgl hHeld ⊢
    clear hgb
    refine rdy 6 fun K hK=>?_
    have hcv:=run_convert_bytes_arg (P:=Tryz.prog) WB 107 5 Tryz.underlying107 Tryz.underlying5 gb 0 1 1 [k] rfl (fun j hj=>by
     obtain rfl:j=0:=by omega
     exact HBc) 9 Tryz.underlying9
    rw[str_one]at hcv
    go_simp
    refine hK.out _ _ (sS.out _ KT) (fun hHeld=>?_)
    clear hK K hcv
    refine rdy 7 fun K hK=>?_
    go_simp
    refine hK.out _ _ (sS.out _ (KT.alloc _)) (fun hHeld=>?_)
    clear hK K
    have hO:=lit3_own WB (w.heap.size+1) ⟨#[46,109,111,100,101,108]⟩ s ⟨#[k.toNat.toUInt8]⟩ (by have h1:=KT.size;have h2:=HW.out.2.lt;have h3:=HP.out;omega)
    have HF:=hid' (And.intro (KT.alloc (.cells #[.string ⟨#[46,109,111,100,101,108]⟩,.string s,.string ⟨#[k.toNat.toUInt8]⟩] 9)) hO)
    clear hO
    refine tk 8 hHeld ?_
    refine dn ?_
    go_wp2_with fail
    go_meet
    case rel=>exact⟨_,rfl,HF.out⟩
   ·go_simp
    refine hK.out _ _ (sS.out _ (KT.alloc _)) (fun hHeld=>?_)
    clear hK K
    have HBc:(Wd.alloc (.cells #[.int .u8 k] 5)).cell? ⟨Wd.heap.size,0,none⟩=some (.int .u8 k):=by simp
    have KT:=KT.alloc (.cells #[.int .u8 k] 5)
    obtain⟨gb,hgb⟩:∃q,q=Wd.heap.size:=⟨_,rfl⟩
    have hgl:Wd.heap.size<(Wd.alloc (.cells #[.int .u8 k] 5)).heap.size:=by simp
    rw[<-hgb]at HBc hgl ⊢
    generalize Wd.alloc (.cells #[.int .u8 k] 5)=WB at KT HBc hgl hHeld ⊢
    clear hgb
    refine wpAnyH_ready (rs:=[2,6]) (by kernel_rfl) (by simp) ?_
    refine AllReadyH.cons rfl (fun K hK=>?_) (AllReadyH.cons rfl (fun K hK=>?_) AllReadyH.nil)
    ·go_simp
     refine(anew_any s _).mono ?_
     rintro e w2 ⟨hk2,rfl⟩
     have KT:=KT.trans hk2
     have HBc:=(Below.cell hk2 (p:=⟨gb,0,none⟩) hgl).trans HBc
     refine hK.out _ _ (sS.out _ KT) (fun hHeld=>?_)
     clear hK K hk2
     refine rdy 6 fun K hK=>?_
     have hcv:=run_convert_bytes_arg (P:=Tryz.prog) w2 107 5 Tryz.underlying107 Tryz.underlying5 gb 0 1 1 [k] rfl (fun j hj=>by
      obtain rfl:j=0:=by omega
      exact HBc) 9 Tryz.underlying9
     rw[str_one]at hcv
     go_simp
     refine hK.out _ _ (sS.out _ KT) (fun hHeld=>?_)
     clear hK K hcv
     refine rdy 7 fun K hK=>?_
     go_simp
     refine hK.out _ _ (sS.out _ (KT.alloc _)) (fun hHeld=>?_)
     clear hK K
     have hO:=lit3_own w2 (w.heap.size+1) ⟨#[46,109,111,100,101,108]⟩ s ⟨#[k.toNat.toUInt8]⟩ (by have h1:=KT.size;have h2:=HW.out.2.lt;have h3:=HP.out;omega)
     have HF:=hid' (And.intro (KT.alloc (.cells #[.string ⟨#[46,109,111,100,101,108]⟩,.string s,.string ⟨#[k.toNat.toUInt8]⟩] 9)) hO)
     clear hO
     refine tk 8 hHeld ?_
     refine dn ?_
     go_wp2_with fail
     go_meet
     case rel=>exact⟨_,rfl,HF.out⟩
    ·have hcv:=run_convert_bytes_arg (P:=Tryz.prog) WB 107 5 Tryz.underlying107 Tryz.underlying5 gb 0 1 1 [k] rfl (fun j hj=>by
      obtain rfl:j=0:=by omega
      exact HBc) 9 Tryz.underlying9
     rw[str_one]at hcv
     go_simp
     refine hK.out _ _ (sS.out _ KT) (fun hHeld=>?_)
     clear hK K hcv
     refine rdy 2 fun K hK=>?_
     go_simp
     refine(anew_any s _).mono ?_
     rintro e w2 ⟨hk2,rfl⟩
     have KT:=KT.trans hk2
     refine hK.out _ _ (sS.out _ KT) (fun hHeld=>?_)
     clear hK K hk2
     refine rdy 7 fun K hK=>?_
     go_simp
     refine hK.out _ _ (sS.out _ (KT.alloc _)) (fun hHeld=>?_)
     clear hK K
     have hO:=lit3_own w2 (w.heap.size+1) ⟨#[46,109,111,100,101,108]⟩ s ⟨#[k.toNat.toUInt8]⟩ (by have h1:=KT.size;have h2:=HW.out.2.lt;have h3:=HP.out;omega)
     have HF:=hid' (And.intro (KT.alloc (.cells #[.string ⟨#[46,109,111,100,101,108]⟩,.string s,.string ⟨#[k.toNat.toUInt8]⟩] 9)) hO)
     clear hO
     refine tk 8 hHeld ?_
     refine dn ?_
     go_wp2_with fail
     go_meet
     case rel=>exact⟨_,rfl,HF.out⟩
  case rest=>
   obtain⟨g,rfl,HC⟩:=hcut
   have HI0:Hid (CwI w wc p 46 [.string s,.int .u8 k,.slice a1 n c,.slice a2 n2 c2] (.slice (some ⟨g,0,none⟩) 3 3) ([[46,109,111,100,101,108],s.data.toList,[k.toNat.toUInt8]]++mw gs vs 0)):=⟨HW.out.1.trans HC.out.1,by rw[HP.out];exact Nat.le_refl _,HW.out.2.kept HC.out.1,by rw[mw,List.append_nil];exact HC.out.2⟩
   generalize (Value.slice (some ⟨g,0,none⟩) 3 3)=u0 at HI0 ⊢
   have f2:=HI0.out.row.cell 2 (.slice a1 n c)
   have hn4:n<=4:=by have h1:=HOK.out.2.2.2.1;have h2:=HLN.out.1;omega
   go_wp2_with fail
   go_loopw [4,21] (fun vu vi wr=>∃j:Nat,j<=n/\vi=.int .i64 (j:Int)/\Hid (CwI w wr p 46 [.string s,.int .u8 k,.slice a1 n c,.slice a2 n2 c2] vu ([[46,109,111,100,101,108],s.data.toList,[k.toNat.toUInt8]]++mw gs vs j))) (fun _ vi _=>n-(intOf vi).toNat)
   case atStart=>exact⟨0,Nat.zero_le _,rfl,HI0.out⟩
   case round=>
    obtain⟨j,hj,rfl,HI⟩:=hrel
    clear HI0 f2
    by_cases hjt:j<n
    ·have hji:(j:Int)<(n:Int):=by omega
     obtain⟨ao',c',hv',hx⟩:=HC0.out.2.2.1.kept HI.out.kp
     simp only[Value.slice.injEq]at hv'
     obtain⟨rfl,hnw0,rfl⟩:=hv'
     clear hnw0
     have hnw:n=gs.length:=HLN.out.1
     obtain⟨b,off,rfl,hb,hcl⟩:=hx (by omega)
     obtain⟨q0,q1⟩:=hcl j (by omega)
     have hbw:¬b=wr.heap.size:=by omega
     generalize hy:gs.getD j (0,0)=y at q0 q1
     obtain⟨y0,y1⟩:=y
     simp only at q0 q1
     have HY:=hid' hy
     clear hx hcl hnw hy
     obtain⟨wk,hwk⟩:∃l,l=[[46,109,111,100,101,108],s.data.toList,[k.toNat.toUInt8]]++mw gs vs j:=⟨_,rfl⟩
     rw[<-hwk]at HI
     have HWK:=hid' hwk
     have HLW:=hid' (show wk.length<=100 by rw[hwk,List.length_append];have:=mw_len gs vs j;simp only[List.length_cons,List.length_nil];omega)
     clear hwk
     have kN:=(Kept.refl wr).alloc (.cells #[.int .i64 y0,.int .i64 y1] 25)
     have hNr:=Q.Row2.alloc 25 wr (.int .i64 y0) (.int .i64 y1)
     have HI:=hid' (HI.out.kept kN)
     by_cases hj0:j=0
     ·have hjn:¬(0:Int)<(j:Int):=by omega
      have HJ0:=hid' hj0
      clear hj0
      go_wp2_with fail
      generalize wr.alloc (.cells #[.int .i64 y0,.int .i64 y1] 25)=W1 at HI hNr ⊢
      clear kN
      refine(ctext_any y0 y1 _ (HC0.out.1.kept HI.out.kp) (HC0.out.2.1.kept HI.out.kp)).mono ?_
      rintro e w4 ⟨hkt,rfl⟩
      obtain⟨tv,htv⟩:∃t,t=bs (tx (y0,y1)):=⟨_,rfl⟩
      rw[<-htv]
      have Htv:=hid' htv
      have HI:=hid' (HI.out.kept hkt)
      have hNr:=hNr.kept hkt
      clear htv hkt
      clear hNr
      have KA:=(Kept.refl w4).alloc (.cells #[.string tv] 9)
      go_wp2_with (at_builtin;refine wpList_append_lies _ rfl (.tmp 38) (.tmp 41) 22 rfl (w.heap.size+1) 9 i0 (.string ByteArray.empty) 1 16 X.und_strs hi hz0 hz1 hz2 rfl (by decide) u4 wk.length (strs wk) rfl (by exact(HI.out.kept KA).own) ⟨w4.heap.size,0,none⟩ 1 1 [.string tv] rfl rfl (X.cell_new w4 _ _) (fun u hu=>by simp at hu;subst hu;rfl) (by omega) (by have:=HLW.out;unfold maxLen;omega) (by have:=HLW.out;omega) (by have:=HI.out.kp.size;have:=HI.out.row.lt;have:=HI.out.le;have:=HP.out;simp;omega) _ rfl ?_)
      intro g4 cap4 W4 own4 hg4 hgg _
      have HI:=hid' (HI.out.add (news:=[tv.data.toList]) KA own4 rfl hg4)
      clear own4 hg4 hgg KA
      go_wp2_with fail
      go_roundw
      case rel=>
       refine⟨j+1,by omega,by go_num,?_⟩
       rw[mw,HY.out,<-bs_list (tx (y0,y1)),<-Htv.out,if_pos HJ0.out,List.append_nil,<-List.append_assoc,<-HWK.out]
       exact HI.out
      case measure=>show n-((j:Int)+1).toNat<n-(j:Int).toNat;omega
     ·obtain⟨i,rfl⟩:∃i,j=i+1:=⟨j-1,by omega⟩
      have hwr:IntKind.i64.wrap ((i:Int)+1-1)=(i:Int):=by rw[IntKind.wrap_i64];omega
      have hip:(0:Int)<(i:Int)+1:=by omega
      have hil:i<n2:=by have h1:=HOK.out.2.2.1;have h2:=HLN.out;omega
      have hili:(i:Int)<(n2:Int):=by omega
      obtain⟨ao2,cc2,hv2,hx2⟩:=HC0.out.2.2.2.kept HI.out.kp
      simp only[Value.slice.injEq]at hv2
      obtain⟨rfl,hn20,rfl⟩:=hv2
      clear hn20
      have hnw2:n2=vs.length:=HLN.out.2
      obtain⟨b2,o2,rfl,hb2,hcl2⟩:=hx2 (by omega)
      obtain⟨r0,r1⟩:=hcl2 i (by omega)
      generalize hz:vs.getD i (0,0)=z at r0 r1
      obtain⟨z0,z1⟩:=z
      simp only at r0 r1
      have HZ:=hid' hz
      have f3:=HI.out.row.cell 3 (.slice (some ⟨b2,o2,none⟩) n2 c2)
      clear hx2 hcl2 hnw2 hz hj0
      go_wp2_with fail
      generalize wr.alloc (.cells #[.int .i64 y0,.int .i64 y1] 25)=W1 at HI hNr r0 r1 f3 ⊢
      obtain⟨qn,hqn⟩:∃q,q=wr.heap.size:=⟨_,rfl⟩
      rw[<-hqn]at hNr ⊢
      clear kN hqn hbw
      refine(ctext_any z0 z1 _ (HC0.out.1.kept HI.out.kp) (HC0.out.2.1.kept HI.out.kp)).mono ?_
      rintro e w4 ⟨hkt,rfl⟩
      obtain⟨tz,htz⟩:∃t,t=bs (tx (z0,z1)):=⟨_,rfl⟩
      rw[<-htz]
      have Htz:=hid' htz
      have HI:=hid' (HI.out.kept hkt)
      have hNr:=hNr.kept hkt
      clear htz hkt
      clear r0 r1 f3
      have KA:=(Kept.refl w4).alloc (.cells #[.string tz] 9)
      go_wp2_with (at_builtin;refine wpList_append_lies _ rfl (.tmp 28) (.tmp 36) 22 rfl (w.heap.size+1) 9 i0 (.string ByteArray.empty) 1 16 X.und_strs hi hz0 hz1 hz2 rfl (by decide) u4 wk.length (strs wk) rfl (by exact(HI.out.kept KA).own) ⟨w4.heap.size,0,none⟩ 1 1 [.string tz] rfl rfl (X.cell_new w4 _ _) (fun u hu=>by simp at hu;subst hu;rfl) (by omega) (by have:=HLW.out;unfold maxLen;omega) (by have:=HLW.out;omega) (by have:=HI.out.kp.size;have:=HI.out.row.lt;have:=HI.out.le;have:=HP.out;simp;omega) _ rfl ?_)
      intro g4 cap4 W4 own4 hg4 hgg _
      have hNr:=hNr.kept KA
      have hqo:u4.ownBlock≠some qn:=own_row (HI.out.kept KA).own hNr (by decide)
      have hNr:Q.Row2 25 W4 qn (.int .i64 y0) (.int .i64 y1):=World.rowIs.of_block hNr (hg4.block qn hNr.lt (fun e=>hqo e.symm))
      have HI:=hid' (HI.out.add (news:=[tz.data.toList]) KA own4 rfl hg4)
      have n0:=hNr.c0
      have n1:=hNr.c1
      clear own4 hg4 hgg KA hqo
      have HLW:=hid' (show (wk++[tz.data.toList]).length<=200 by rw[List.length_append];have:=HLW.out;simp only[List.length_cons,List.length_nil];omega)
      go_wp2_with fail
      refine(ctext_any y0 y1 _ (HC0.out.1.kept HI.out.kp) (HC0.out.2.1.kept HI.out.kp)).mono ?_
      rintro e w5 ⟨hkt,rfl⟩
      obtain⟨tv,htv⟩:∃t,t=bs (tx (y0,y1)):=⟨_,rfl⟩
      rw[<-htv]
      have Htv:=hid' htv
      have HI:=hid' (HI.out.kept hkt)
      have hNr:=hNr.kept hkt
      clear htv hkt
      clear hNr n0 n1
      have KA:=(Kept.refl w5).alloc (.cells #[.string tv] 9)
      go_wp2_with (at_builtin;refine wpList_append_lies _ rfl (.tmp 38) (.tmp 41) 22 rfl (w.heap.size+1) 9 i0 (.string ByteArray.empty) 1 16 X.und_strs hi hz0 hz1 hz2 rfl (by decide) (.slice (some ⟨g4,0,none⟩) (wk.length+1) cap4) (wk++[tz.data.toList]).length (strs (wk++[tz.data.toList])) rfl (by exact(HI.out.kept KA).own) ⟨w5.heap.size,0,none⟩ 1 1 [.string tv] rfl rfl (X.cell_new w5 _ _) (fun u hu=>by simp at hu;subst hu;rfl) (by omega) (by have:=HLW.out;unfold maxLen;omega) (by have:=HLW.out;omega) (by have:=HI.out.kp.size;have:=HI.out.row.lt;have:=HI.out.le;have:=HP.out;simp;omega) _ rfl ?_)
      intro g5 cap5 W5 own4 hg4 hgg _
      have HI:=hid' (HI.out.add (news:=[tv.data.toList]) KA own4 (by simp) hg4)
      clear own4 hg4 hgg KA
      go_wp2_with fail
      go_roundw
      case rel=>
       refine⟨i+1+1,by omega,by go_num,?_⟩
       rw[mw,HY.out,<-bs_list (tx (y0,y1)),<-Htv.out,if_neg (by omega),show i+1-1=i from rfl,HZ.out,<-bs_list (tx (z0,z1)),<-Htz.out,<-List.append_assoc,<-List.append_assoc,<-HWK.out]
       exact HI.out
      case measure=>show n-((i:Int)+1+1).toNat<n-((i:Int)+1).toNat;omega
    ·have hji:¬(j:Int)<(n:Int):=by omega
     obtain rfl:j=n:=by omega
     have HMW:=hid' (show mwords ⟨s.data.toList,k,gs,vs⟩=[[46,109,111,100,101,108],s.data.toList,[k.toNat.toUInt8]]++mw gs vs j by unfold mwords;rw[<-HLN.out.1])
     go_wp2_with fail
     go_ret2
     exact⟨HI.out.kp,.inr ⟨HOK.out.1,_,rfl,by rw[HMW.out];exact own_mono HI.out.own (Nat.le_succ _)⟩⟩
open Q (hid' Lett ErrV Tab)
open X (RS)
structure ME where
 m:Md
 a1:Option Addr
 c1:Nat
 a2:Option Addr
 c2:Nat
structure CE where
 c:Cd
 a1:Option Addr
 c1:Nat
 a2:Option Addr
 c2:Nat
 a3:Option Addr
 c3:Nat
structure SE where
 name:List UInt8
 ports:List (List UInt8)
 ap:Option Addr
 cp:Nat
 cards:List CE
 ac:Option Addr
 cc:Nat
structure Ci where
 m:Int
 x:Int
 meth:Int
 ms:List ME
 am:Option Addr
 cm:Nat
 ss:List SE
 ab:Option Addr
 cb:Nat
 cd:List CE
 ac:Option Addr
 cc:Nat
def ME.cells (e:ME):List Value:=[.string (X.bs e.m.name),.int .u8 e.m.kind,.slice e.a1 e.m.gs.length e.c1,.slice e.a2 e.m.vs.length e.c2]
def CE.cells (e:CE):List Value:=[.string (X.bs e.c.name),.slice e.a1 e.c.nodes.length e.c1,.string (X.bs e.c.ref),.int .i64 e.c.val.1,.int .i64 e.c.val.2,.int .i64 e.c.kind,.slice e.a2 e.c.vals.length e.c2,.slice e.a3 e.c.steps.length e.c3]
def SE.cells (e:SE):List Value:=[.string (X.bs e.name),.slice e.ap e.ports.length e.cp,.slice e.ac e.cards.length e.cc]
def ME.ok (w:World)(e:ME):Prop:=NSl w (.slice e.a1 e.m.gs.length e.c1) e.m.gs/\NSl w (.slice e.a2 e.m.vs.length e.c2) e.m.vs
def CE.ok (w:World)(e:CE):Prop:=CdR w e.a1 e.c.nodes.length e.c1 e.a2 e.c.vals.length e.c2 e.a3 e.c.steps.length e.c3 e.c
def MsR (w:World)(v:Value)(l:List ME):Prop:=RowsR 4 w v (l.map ME.cells)/\∀e∈l,e.ok w
def CsR (w:World)(v:Value)(l:List CE):Prop:=RowsR 8 w v (l.map CE.cells)/\∀e∈l,e.ok w
def SE.ok (w:World)(e:SE):Prop:=RS w (.slice e.ap e.ports.length e.cp) e.ports/\CsR w (.slice e.ac e.cards.length e.cc) e.cards
def SsR (w:World)(v:Value)(l:List SE):Prop:=RowsR 3 w v (l.map SE.cells)/\∀e∈l,e.ok w
theorem MsR.kept {w w':World}{v:Value}{l:List ME}(h:MsR w v l)(k:Kept w w'):MsR w' v l:=⟨h.1.kept k,fun e he=>⟨(h.2 e he).1.kept k,(h.2 e he).2.kept k⟩⟩
theorem CE.ok.kept {w w':World}{e:CE}(h:e.ok w)(k:Kept w w'):e.ok w':=CdR.kept h k
theorem CsR.kept {w w':World}{v:Value}{l:List CE}(h:CsR w v l)(k:Kept w w'):CsR w' v l:=⟨h.1.kept k,fun e he=>(h.2 e he).kept k⟩
theorem SE.ok.kept {w w':World}{e:SE}(h:e.ok w)(k:Kept w w'):e.ok w':=⟨h.1.kept k,h.2.kept k⟩
theorem SsR.kept {w w':World}{v:Value}{l:List SE}(h:SsR w v l)(k:Kept w w'):SsR w' v l:=⟨h.1.kept k,fun e he=>(h.2 e he).kept k⟩
def ME.sz (e:ME):Prop:=e.m.name.length<=9223372036854775807/\e.m.gs.length<=4611686018427387903/\e.m.vs.length<=4611686018427387903
def CE.sz (e:CE):Prop:=(e.c.nodes.length+200)*16<=140737488355328/\(∀x∈cwords e.c,x.length<=9223372036854775807)/\e.c.name.length<=9223372036854775807
def CsZ (l:List CE)(c:Nat):Prop:=l.length<=c/\c<=9223372036854775807/\∀e∈l,e.sz
def SE.sz (e:SE):Prop:=e.name.length<=9223372036854775807/\(∀p∈e.ports,p.length<=9223372036854775807)/\(e.ports.length<=e.cp/\e.cp<=9223372036854775807)/\CsZ e.cards e.cc
theorem cells_m (l:List ME):∀x∈l.map ME.cells,ShM x:=by
 intro x hx
 obtain⟨e,_,rfl⟩:=List.mem_map.1 hx
 exact⟨_,_,_,_,_,_,_,_,rfl⟩
theorem cells_s (l:List SE):∀x∈l.map SE.cells,ShS x:=by
 intro x hx
 obtain⟨e,_,rfl⟩:=List.mem_map.1 hx
 exact⟨_,_,_,_,_,_,_,rfl⟩
theorem cells_c (l:List CE):∀x∈l.map CE.cells,ShC x:=by
 intro x hx
 obtain⟨e,_,rfl⟩:=List.mem_map.1 hx
 exact⟨_,_,_,_,_,_,_,_,_,_,_,_,_,_,rfl⟩
theorem map_getD {α:Type}(f:α->List Value)(l:List α)(j:Nat)(hj:j<l.length):(l.map f).getD j []=f l[j]:=by
 rw[List.getD_eq_getElem?_getD,List.getElem?_map,List.getElem?_eq_getElem hj]
 rfl
def modB (e:ME):Bool:=okM e.m.name e.m.kind e.m.gs e.m.vs
def cardB (e:CE):Bool:=(writeC e.c).isSome
def portB (p:List UInt8):Bool:=okName p && !(p == [48])
def portsB (l:List (List UInt8)):Bool:=decide (1<=l.length/\l.length<=8) && !(l.any fun p=>!portB p)
def subB (e:SE):Bool:=okName e.name&&portsB e.ports
theorem any_get {α:Type}(l:List α)(q:α->Bool)(p:Nat->Bool)(h:∀j (hj:j<l.length),p j=q l[j]):anyB p l.length=l.any q:=by
 unfold anyB
 rw[Bool.eq_iff_iff,List.any_eq_true,List.any_eq_true]
 constructor
 ·rintro⟨j,hj,e⟩
  have hj':=List.mem_range.1 hj
  exact⟨l[j],List.getElem_mem hj',by rw[<-h j hj'];exact e⟩
 ·rintro⟨x,hx,e⟩
  obtain⟨j,hj,rfl⟩:=List.getElem_of_mem hx
  exact⟨j,List.mem_range.2 hj,by rw[h j hj];exact e⟩
theorem rightModel1 (e:ME)(w:World)(hL:Lett w)(hT:Tab w)(h:e.ok w)(hz:e.sz) :
  Calls Tryz.prog 92 #[.agg e.cells.toArray] w fun r w'=>r=.returned (.bool (!modB e))/\Kept w w':=by
 obtain⟨⟨nm,k,gs,vs⟩,a1,c1,a2,c2⟩:=e
 have hW:=fun V (K:Kept w V)=>writeM_any (X.bs nm) k a1 a2 gs.length c1 vs.length c2 gs vs V (hL.kept K) (hT.kept K) (by rw[X.bs_size];exact hz.1) (h.1.kept K) (h.2.kept K) hz.2.1 hz.2.2
 rw[X.bs_list]at hW
 have HW:=hid' hW
 have HB:=hid' (show modB ⟨⟨nm,k,gs,vs⟩,a1,c1,a2,c2⟩=okM nm k gs vs from rfl)
 generalize modB ⟨⟨nm,k,gs,vs⟩,a1,c1,a2,c2⟩=mb at HB ⊢
 show Calls Tryz.prog 92 #[.agg #[.string (X.bs nm),.int .u8 k,.slice a1 gs.length c1,.slice a2 vs.length c2]] w _
 generalize X.bs nm=s at HW ⊢
 clear hW h hz hL hT
 go_enter Tryz.func92,Tryz.ntmps92
 have kA:=(Kept.refl w).alloc (.cells #[.string s,.int .u8 k,.slice a1 gs.length c1,.slice a2 vs.length c2] 46)
 go_wp2_with fail
 refine(HW.out _ kA).mono ?_
 rintro r w2 ⟨hk,hr⟩
 have HK:=hid' (kA.trans hk)
 clear kA hk
 rcases hr with ⟨h1,rfl⟩|⟨h1,u,rfl,_⟩
 ·have HE:=hid' (show mb=false from HB.out.trans h1)
  clear h1
  go_wp2_with fail
  go_ret
  exact⟨by rw[HE.out];rfl,HK.out⟩
 ·have HE:=hid' (show mb=true from HB.out.trans h1)
  clear h1
  go_wp2_with fail
  go_ret
  exact⟨by rw[HE.out];rfl,HK.out⟩
theorem rightModels_any (ao:Option Addr)(c:Nat)(l:List ME)(w:World)(hL:Lett w)(hT:Tab w)(h:MsR w (.slice ao l.length c) l)(hz:∀e∈l,e.sz)(hb:l.length<=9223372036854775807) :
  Calls Tryz.prog 69 #[.slice ao l.length c] w fun r w'=>Kept w w'/\r=.returned (.bool (!(l.any fun e=>!modB e))):=by
 have hc:=con_models 92 #[] (fun j=>if hj:j<l.length then !modB l[j] else false) (fun _ _=>by simp) ao l.length c (l.map ME.cells) w (fun V j hV hj=>by
  rw[map_getD ME.cells l j hj,dif_pos hj]
  exact(rightModel1 l[j] V (hL.kept hV) (hT.kept hV) ⟨(h.2 _ (List.getElem_mem hj)).1.kept hV,(h.2 _ (List.getElem_mem hj)).2.kept hV⟩ (hz _ (List.getElem_mem hj))).mono (fun r w' k=>⟨k.1,hV.trans k.2⟩)) h.1 (fun x hx=>(cells_m l x hx).len) hb
 rw[any_get l (fun e=>!modB e) _ (fun j hj=>by rw[dif_pos hj])]at hc
 generalize (l.any fun e=>!modB e)=bb at hc ⊢
 generalize l.length=n at hc ⊢
 clear h hz
 go_enter Tryz.func69,Tryz.ntmps69
 go_wp2_with fail
 refine hc.mono ?_
 rintro r w2 ⟨hk,rfl⟩
 go_wp2_with fail
 go_ret
 exact⟨hk,rfl⟩
theorem rightPort1 (p:List UInt8)(w:World)(hs:p.length<=9223372036854775807) :
  Calls Tryz.prog 133 #[.string (X.bs p)] w fun r w'=>r=.returned (.bool (!portB p))/\Kept w w':=by
 have hn:=fun V=>cname_any (X.bs p) V (by rw[X.bs_size];exact hs)
 rw[X.bs_list]at hn
 have ht:(X.bs p).toList=p:=by rw[ByteArray.toList_eq,X.bs_list]
 have HB:=hid' (show portB p=(okName p && !((X.bs p).toList == [48])) by rw[ht];rfl)
 generalize portB p=pb at HB ⊢
 generalize okName p=ok at hn HB
 generalize X.bs p=s at hn HB ⊢
 clear ht
 go_enter Tryz.func133,Tryz.ntmps133
 go_wp2_with fail
 refine(hn _).mono ?_
 rintro r w1 ⟨rfl,rfl⟩
 cases ok
 ·have HE:=hid' (show pb=false by rw[HB.out];rfl)
  go_wp2_with fail
  go_ret
  exact⟨by rw[HE.out];rfl,Kept.refl _⟩
 ·cases h0:(s.toList == [48])
  ·have HE:=hid' (show pb=true by rw[HB.out,h0];rfl)
   go_wp2_with fail
   go_ret
   exact⟨by rw[HE.out];rfl,Kept.refl _⟩
  ·have HE:=hid' (show pb=false by rw[HB.out,h0];rfl)
   go_wp2_with fail
   go_ret
   exact⟨by rw[HE.out];rfl,Kept.refl _⟩
theorem rightPorts_any (ao:Option Addr)(n c:Nat)(l:List (List UInt8))(w:World)(h:RS w (.slice ao n c) l)(hz:∀p∈l,p.length<=9223372036854775807)(hb:n<=9223372036854775807) :
  Calls Tryz.prog 97 #[.slice ao n c] w fun r w'=>Kept w w'/\r=.returned (.bool (portsB l)):=by
 have hn:n=l.length:=by obtain⟨_,_,e,_⟩:=h;simp at e;exact e.2.1
 have hc:=con_strs 133 #[] (fun j=>!portB (l.getD j [])) (fun _ _=>by simp) ao n c l w (fun V j hV hj=>by
  exact(rightPort1 (l.getD j []) V (by
   rw[List.getD_eq_getElem?_getD,List.getElem?_eq_getElem (by omega)]
   exact hz _ (List.getElem_mem _))).mono (fun r w' k=>⟨k.1,hV.trans k.2⟩)) h hb
 have e1:=anyB_list l [] (fun p=>!portB p) (fun j=>!portB (l.getD j [])) n hn (fun _ _=>rfl)
 rw[e1]at hc
 have HB:=hid' (show portsB l=(decide (1<=n/\n<=8) && !(l.any fun p=>!portB p)) by unfold portsB;rw[hn])
 generalize portsB l=pb at HB ⊢
 generalize (l.any fun p=>!portB p)=bb at hc HB
 clear h hz hn e1
 by_cases h1:n<1
 ·have h1i:(n:Int)<1:=by omega
  have HE:=hid' (show pb=false by rw[HB.out,decide_eq_false (by omega)];rfl)
  go_enter Tryz.func97,Tryz.ntmps97
  go_wp2_with fail
  go_ret
  exact⟨Kept.refl _,by rw[HE.out];rfl⟩
 have h1i:¬(n:Int)<1:=by omega
 by_cases h2:8<n
 ·have h2i:(8:Int)<(n:Int):=by omega
  have HE:=hid' (show pb=false by rw[HB.out,decide_eq_false (by omega)];rfl)
  go_enter Tryz.func97,Tryz.ntmps97
  go_wp2_with fail
  go_ret
  exact⟨Kept.refl _,by rw[HE.out];rfl⟩
 have h2i:¬(8:Int)<(n:Int):=by omega
 have HE:=hid' (show pb=!bb by rw[HB.out,decide_eq_true (by omega)];rfl)
 clear HB
 go_enter Tryz.func97,Tryz.ntmps97
 go_wp2_with fail
 refine hc.mono ?_
 rintro r w2 ⟨hk,rfl⟩
 go_wp2_with fail
 go_ret
 exact⟨hk,by rw[HE.out];rfl⟩
theorem rightSub1 (e:SE)(w:World)(h:e.ok w)(hz:e.sz) :
  Calls Tryz.prog 95 #[.agg e.cells.toArray] w fun r w'=>r=.returned (.bool (!subB e))/\Kept w w':=by
 obtain⟨nm,ports,ap,cp,cards,ac,cc⟩:=e
 have hn:=fun V=>cname_any (X.bs nm) V (by rw[X.bs_size];exact hz.1)
 rw[X.bs_list]at hn
 have hp:=fun V (K:Kept w V)=>rightPorts_any ap ports.length cp ports V (h.1.kept K) hz.2.1 (Nat.le_trans hz.2.2.1.1 hz.2.2.1.2)
 have HB:=hid' (show subB ⟨nm,ports,ap,cp,cards,ac,cc⟩=(okName nm&&portsB ports) from rfl)
 generalize subB ⟨nm,ports,ap,cp,cards,ac,cc⟩=sb at HB ⊢
 show Calls Tryz.prog 95 #[.agg #[.string (X.bs nm),.slice ap ports.length cp,.slice ac cards.length cc]] w _
 have HP:=hid' hp
 generalize X.bs nm=s at hn ⊢
 generalize okName nm=ok at hn HB
 generalize portsB ports=pb at HP HB
 clear hp h hz
 have kA:=(Kept.refl w).alloc (.cells #[.string s,.slice ap ports.length cp,.slice ac cards.length cc] 125)
 go_enter Tryz.func95,Tryz.ntmps95
 go_wp2_with fail
 refine(hn _).mono ?_
 rintro r w1 ⟨rfl,rfl⟩
 cases ok
 ·have HE:=hid' (show sb=false by rw[HB.out];rfl)
  go_wp2_with fail
  go_ret
  exact⟨by rw[HE.out];rfl,kA⟩
 ·have HE:=hid' (show sb=pb by rw[HB.out];rfl)
  go_wp2_with fail
  refine(HP.out _ kA).mono ?_
  rintro r w2 ⟨hk,rfl⟩
  have HK:=hid' (kA.trans hk)
  clear hk kA
  go_wp2_with fail
  go_ret
  exact⟨by rw[HE.out];rfl,HK.out⟩
theorem rightSubs_any (ao:Option Addr)(c:Nat)(l:List SE)(w:World)(h:SsR w (.slice ao l.length c) l)(hz:∀e∈l,e.sz)(hb:l.length<=9223372036854775807) :
  Calls Tryz.prog 70 #[.slice ao l.length c] w fun r w'=>Kept w w'/\r=.returned (.bool (!(l.any fun e=>!subB e))):=by
 have hc:=con_subs 95 #[] (fun j=>if hj:j<l.length then !subB l[j] else false) (fun _ _=>by simp) ao l.length c (l.map SE.cells) w (fun V j hV hj=>by
  rw[map_getD SE.cells l j hj,dif_pos hj]
  exact(rightSub1 l[j] V ((h.2 _ (List.getElem_mem hj)).kept hV) (hz _ (List.getElem_mem hj))).mono (fun r w' k=>⟨k.1,hV.trans k.2⟩)) h.1 (fun x hx=>(cells_s l x hx).len) hb
 rw[any_get l (fun e=>!subB e) _ (fun j hj=>by rw[dif_pos hj])]at hc
 generalize (l.any fun e=>!subB e)=bb at hc ⊢
 generalize l.length=n at hc ⊢
 clear h hz
 go_enter Tryz.func70,Tryz.ntmps70
 go_wp2_with fail
 refine hc.mono ?_
 rintro r w2 ⟨hk,rfl⟩
 go_wp2_with fail
 go_ret
 exact⟨hk,rfl⟩
theorem rightCard11 (e:CE)(w:World)(hL:Lett w)(hE:ErrV w)(hT:Tab w)(h:e.ok w)(hz:e.sz) :
  Calls Tryz.prog 102 #[.agg e.cells.toArray] w fun r w'=>r=.returned (.bool (!cardB e))/\Kept w w':=by
 obtain⟨⟨nm,nds,rf,⟨vm,vx⟩,kd,vls,sts⟩,a1,c1,a2,c2,a3,c3⟩:=e
 have hW:=fun V (K:Kept w V)=>write_any a1 a2 a3 nds.length c1 vls.length c2 sts.length c3 ⟨nm,nds,rf,(vm,vx),kd,vls,sts⟩ V (hL.kept K) (hE.kept K) (hT.kept K) (CdR.kept h K) hz.1 hz.2.1 hz.2.2
 have HB:=hid' (show cardB ⟨⟨nm,nds,rf,(vm,vx),kd,vls,sts⟩,a1,c1,a2,c2,a3,c3⟩=(writeC ⟨nm,nds,rf,(vm,vx),kd,vls,sts⟩).isSome from rfl)
 generalize cardB ⟨⟨nm,nds,rf,(vm,vx),kd,vls,sts⟩,a1,c1,a2,c2,a3,c3⟩=mb at HB ⊢
 generalize writeC ⟨nm,nds,rf,(vm,vx),kd,vls,sts⟩=o at hW HB
 unfold cdV at hW
 simp only at hW
 show Calls Tryz.prog 102 #[.agg #[.string (X.bs nm),.slice a1 nds.length c1,.string (X.bs rf),.int .i64 vm,.int .i64 vx,.int .i64 kd,.slice a2 vls.length c2,.slice a3 sts.length c3]] w _
 have HW:=hid' hW
 generalize X.bs nm=s at HW ⊢
 generalize X.bs rf=t at HW ⊢
 clear hW h hz hL hE hT
 go_enter Tryz.func102,Tryz.ntmps102
 have kA:=(Kept.refl w).alloc (.cells #[.string s,.slice a1 nds.length c1,.string t,.int .i64 vm,.int .i64 vx,.int .i64 kd,.slice a2 vls.length c2,.slice a3 sts.length c3] 110)
 go_wp2_with fail
 refine(HW.out _ kA).mono ?_
 rintro r w2 ⟨hk,hr⟩
 have HK:=hid' (kA.trans hk)
 clear kA hk
 cases o with
 |none=>
  obtain rfl:=hr
  have HE:=hid' (show mb=false from HB.out)
  go_wp2_with fail
  go_ret
  exact⟨by rw[HE.out];rfl,HK.out⟩
 |some ws=>
  obtain⟨u,rfl,_⟩:=hr
  have HE:=hid' (show mb=true from HB.out)
  go_wp2_with fail
  go_ret
  exact⟨by rw[HE.out];rfl,HK.out⟩
open Q (hid' Lett ErrV Tab)
open X (RS)
structure SCE where
 cd:List CE
 ac:Option Addr
 cc:Nat
 ms:List ME
 am:Option Addr
 cm:Nat
 ss:List SE
 ab:Option Addr
 cb:Nat
def SCE.cells (e:SCE):List Value:=[.slice e.ac e.cd.length e.cc,.slice e.am e.ms.length e.cm,.slice e.ab e.ss.length e.cb]
def SCE.ok (w:World)(e:SCE):Prop:=CsR w (.slice e.ac e.cd.length e.cc) e.cd/\MsR w (.slice e.am e.ms.length e.cm) e.ms/\SsR w (.slice e.ab e.ss.length e.cb) e.ss
theorem SCE.ok.kept {w w':World}{e:SCE}(h:e.ok w)(k:Kept w w'):e.ok w':=⟨h.1.kept k,h.2.1.kept k,h.2.2.kept k⟩
def SCE.sz (e:SCE):Prop:=CsZ e.cd e.cc/\(e.ms.length<=e.cm/\e.cm<=9223372036854775807)/\(e.ss.length<=e.cb/\e.cb<=9223372036854775807)
def Ci.cells (c:Ci):List Value:=[.int .i64 c.m,.int .i64 c.x,.int .i64 c.meth,.slice c.am c.ms.length c.cm,.slice c.ab c.ss.length c.cb,.slice c.ac c.cd.length c.cc]
def Ci.ok (w:World)(c:Ci):Prop:=MsR w (.slice c.am c.ms.length c.cm) c.ms/\SsR w (.slice c.ab c.ss.length c.cb) c.ss/\CsR w (.slice c.ac c.cd.length c.cc) c.cd
theorem Ci.ok.kept {w w':World}{c:Ci}(h:c.ok w)(k:Kept w w'):c.ok w':=⟨h.1.kept k,h.2.1.kept k,h.2.2.kept k⟩
structure Ci.sz (c:Ci):Prop where
 m1:c.ms.length<=c.cm/\c.cm<=9223372036854775807
 m2:∀e∈c.ms,e.sz
 s1:c.ss.length<=c.cb/\c.cb<=9223372036854775807
 s2:∀e∈c.ss,e.sz
 s3:c.ss.length<=100000
 c1:CsZ c.cd c.cc
def scAt (c:Ci)(i:Nat)(s:SE):SCE:=⟨s.cards,s.ac,s.cc,c.ms,c.am,c.cm,c.ss.take i,c.ab,c.cb⟩
def scTail (c:Ci):Nat->List SE->List SCE
 |_,[]=>[]
 |i,s::t=>scAt c i s::scTail c (i+1) t
def scOf (c:Ci):List SCE:=⟨c.cd,c.ac,c.cc,c.ms,c.am,c.cm,c.ss,c.ab,c.cb⟩::scTail c 0 c.ss
theorem scTail_len (c:Ci):∀i l,(scTail c i l).length=l.length
 |_,[]=>rfl
 |i,s::t=>by show (scTail c (i+1) t).length+1=t.length+1;rw[scTail_len]
theorem scTail_app (c:Ci)(s:SE):∀i l,scTail c i (l++[s])=scTail c i l++[scAt c (i+l.length) s]
 |i,[]=>rfl
 |i,x::t=>by
  show scAt c i x::scTail c (i+1) (t++[s])=scAt c i x::(scTail c (i+1) t++[scAt c (i+(t.length+1)) s])
  rw[scTail_app c s (i+1) t,show i+1+t.length=i+(t.length+1) by omega]
theorem scTail_mem (c:Ci):∀(l:List SE) (i:Nat) (e:SCE),e∈scTail c i l->∃j s,s∈l/\j<i+l.length/\e=scAt c j s
 | [],_,e,h=>by cases h
 |x::t,i,e,h=>by
  rcases List.mem_cons.1 (show e∈scAt c i x::scTail c (i+1) t from h) with h|h
  ·exact⟨i,x,by simp,by rw[List.length_cons];omega,h⟩
  ·obtain⟨j,s,hs,hj,he⟩:=scTail_mem c t (i+1) e h
   exact⟨j,s,by simp[hs],by rw[List.length_cons];omega,he⟩
theorem SsR.take {w:World}{ao:Option Addr}{c:Nat}{l:List SE}(h:SsR w (.slice ao l.length c) l)(k:Nat)(hk:k<=l.length):SsR w (.slice ao (l.take k).length c) (l.take k):=by
 have hl:(l.take k).length=k:=by rw[List.length_take];omega
 refine⟨?_,fun e he=>h.2 e (List.mem_of_mem_take he)⟩
 rw[hl,List.map_take]
 exact h.1.take k c hk
theorem scOf_ok {w:World}{c:Ci}(h:c.ok w):∀e∈scOf c,e.ok w:=by
 intro e he
 rcases List.mem_cons.1 he with rfl|he
 ·exact⟨h.2.2,h.1,h.2.1⟩
 ·obtain⟨j,s,hs,hj,rfl⟩:=scTail_mem c _ _ _ he
  exact⟨(h.2.1.2 s hs).2,h.1,h.2.1.take j (by omega)⟩
theorem scOf_sz {c:Ci}(h:c.sz):∀e∈scOf c,e.sz:=by
 intro e he
 rcases List.mem_cons.1 he with rfl|he
 ·exact⟨h.c1,h.m1,h.s1⟩
 ·obtain⟨j,s,hs,hj,rfl⟩:=scTail_mem c _ _ _ he
  refine⟨(h.s2 s hs).2.2.2,h.m1,?_,h.s1.2⟩
  show (c.ss.take j).length<=c.cb
  rw[List.length_take]
  have:=h.s1.1
  omega
theorem flat_at:∀(L:List (List Value)),(∀x∈L,x.length=3)->∀j i,j<L.length->i<3->(L.flatten)[j*3+i]?=some ((L.getD j []).getD i undef)
 | [],_,j,_,hj,_=>by simp at hj
 |x::t,h,j,i,hj,hi=>by
  have hx:x.length=3:=h x (by simp)
  rw[List.flatten_cons]
  cases j with
  |zero=>
   rw[Nat.zero_mul,Nat.zero_add,List.getElem?_append_left (by omega),List.getElem?_eq_getElem (by omega)]
   show some x[i]=some (x.getD i undef)
   rw[List.getD_eq_getElem?_getD,List.getElem?_eq_getElem (by omega)]
   rfl
  |succ j=>
   rw[List.getElem?_append_right (by omega),show (j+1)*3+i-x.length=j*3+i by omega]
   exact flat_at t (fun y hy=>h y (by simp[hy])) j i (by simpa using hj) hi
theorem own_rows {B:Nat}{w:World}{ao:Option Addr}{n c:Nat}{L:List (List Value)}(h:w.ownsRow B 130 3 (.slice ao n c) n L.flatten)(hn:n=L.length)(hl:∀x∈L,x.length=3):RowsR 3 w (.slice ao n c) L:=by
 subst hn
 refine⟨ao,c,rfl,fun h0=>?_⟩
 obtain⟨g,cap,e,_,hg,_,hc,_⟩:=own_cell h h0
 simp only[Value.slice.injEq]at e
 obtain⟨rfl,_,rfl⟩:=e
 refine⟨g,0,rfl,hg,fun j hj i hi=>?_⟩
 rw[Nat.zero_add]
 exact hc _ _ (flat_at L hl j i hj hi)
theorem cells_sc (l:List SCE):∀x∈l.map SCE.cells,x.length=3:=by
 intro x hx
 obtain⟨e,_,rfl⟩:=List.mem_map.1 hx
 rfl
theorem info_scope:(Tryz.prog.info? 130).map (fun i=>(i.zero,i.size,i.bytes))=some (some (.agg #[.slice none 0 0,.slice none 0 0,.slice none 0 0]),3,72):=by kernel_rfl
theorem und_scopes:Tryz.prog.underlying 128=some (.slice 130):=by kernel_rfl
theorem cell_three (w:World)(x y z:Value)(t:TypeId):∀j u,([x,y,z]:List Value)[j]?=some u->(w.alloc (.cells #[x,y,z] t)).cell? ((⟨w.heap.size,0,none⟩:Addr).add j)=some u:=by
 intro j u hj
 match j,hj with
 |0,hj=>simp at hj;subst hj;simp[Addr.add]
 |1,hj=>simp at hj;subst hj;simp[Addr.add]
 |2,hj=>simp at hj;subst hj;simp[Addr.add]
theorem lit_scope (w:World)(B:Nat)(x y z:Value)(hB:B<=w.heap.size):(w.alloc (.cells #[x,y,z] 130)).ownsRow B 130 3 (.slice (some ⟨w.heap.size,0,none⟩) 1 1) 1 [x,y,z]:=by
 refine⟨rfl,.inr ⟨w.heap.size,1,#[x,y,z],rfl,hB,?_,Nat.le_refl _,by unfold maxLen;omega,by simp,by simp⟩⟩
 show (w.heap.push _)[w.heap.size]?=_
 simp
theorem scopes_any (c:Ci)(w:World)(h:c.ok w)(hz:c.sz) :
  Calls Tryz.prog 99 #[.agg c.cells.toArray] w fun r w'=>Kept w w'/\∃ao k,r=.returned (.slice ao (scOf c).length k)/\RowsR 3 w' (.slice ao (scOf c).length k) ((scOf c).map SCE.cells):=by
 have HS:=hid' (And.intro h hz)
 obtain⟨m,x,meth,ms,am,cm,ss,ab,cb,cd,ac,cc⟩:=c
 obtain⟨C,hC⟩:∃C:Ci,C=⟨m,x,meth,ms,am,cm,ss,ab,cb,cd,ac,cc⟩:=⟨_,rfl⟩
 rw[<-hC]at HS
 have hsl:ss.length<=100000:=hz.s3
 have hsb:ss.length<=cb:=hz.s1.1
 have hcb:cb<=9223372036854775807:=hz.s1.2
 have HCE:=hid' hC
 have HSS:=hid' (show SsR w (.slice ab ss.length cb) ss from h.2.1)
 show Calls Tryz.prog 99 #[.agg #[.int .i64 m,.int .i64 x,.int .i64 meth,.slice am ms.length cm,.slice ab ss.length cb,.slice ac cd.length cc]] w _
 rw[<-hC]
 have HCC:=hid' (show C.ss=ss/\C.cells=[.int .i64 m,.int .i64 x,.int .i64 meth,.slice am ms.length cm,.slice ab ss.length cb,.slice ac cd.length cc]/\((scOf C).map SCE.cells)=[.slice ac cd.length cc,.slice am ms.length cm,.slice ab ss.length cb]::(scTail C 0 ss).map SCE.cells by subst hC;exact⟨rfl,rfl,rfl⟩)
 have HAT:=hid' (show ∀i s,i<=ss.length->(scAt C i s).cells=[.slice s.ac s.cards.length s.cc,.slice am ms.length cm,.slice ab i cb] by
  intro i s hi
  subst hC
  show ([.slice s.ac s.cards.length s.cc,.slice am ms.length cm,.slice ab (ss.take i).length cb]:List Value)=_
  rw[List.length_take,Nat.min_eq_left hi])
 have HLN:=hid' (show (scOf C).length=ss.length+1 by subst hC;show (scTail _ 0 ss).length+1=_;rw[scTail_len])
 obtain⟨n,hn⟩:∃n,n=ss.length:=⟨_,rfl⟩
 rw[<-hn]at hsl hsb HSS HCC HAT HLN ⊢
 have HN:=hid' hn
 clear h hz hC hn
 obtain⟨i0,hi,hz0,hz1,hz2⟩:=info_parts info_scope
 have kA:=(Kept.refl w).alloc (.cells #[.int .i64 m,.int .i64 x,.int .i64 meth,.slice am ms.length cm,.slice ab n cb,.slice ac cd.length cc] 92)
 have hA:=RowL.alloc 92 w [.int .i64 m,.int .i64 x,.int .i64 meth,.slice am ms.length cm,.slice ab n cb,.slice ac cd.length cc]
 go_enter Tryz.func99,Tryz.ntmps99
 go_upto_region 1 with fail
 generalize w.alloc (.cells #[.int .i64 m,.int .i64 x,.int .i64 meth,.slice am ms.length cm,.slice ab n cb,.slice ac cd.length cc] 92)=W at kA hA ⊢
 obtain⟨p,hp⟩:∃q,q=w.heap.size:=⟨_,rfl⟩
 rw[<-hp]at hA ⊢
 have HP:=hid' hp
 clear hp
 have d3:=hA.cell 3 (.slice am ms.length cm)
 have d4:=hA.cell 4 (.slice ab n cb)
 have d5:=hA.cell 5 (.slice ac cd.length cc)
 have kB:=(Kept.refl W).alloc (.cells #[.slice ac cd.length cc,.slice am ms.length cm,.slice ab n cb] 130)
 have e4:=(hA.kept kB).cell 4 (.slice ab n cb)
 have HO:Hid ((W.alloc (.cells #[.slice ac cd.length cc,.slice am ms.length cm,.slice ab n cb] 130)).ownsRow (p+1) 130 3 (.slice (some ⟨W.heap.size,0,none⟩) 1 1) 1 [.slice ac cd.length cc,.slice am ms.length cm,.slice ab n cb]):=lit_scope W (p+1) _ _ _ (by have:=hA.lt;omega)
 have HI:=hid' (And.intro (kA.trans kB) (hA.kept kB))
 go_wp2_with fail
 generalize W.alloc (.cells #[.slice ac cd.length cc,.slice am ms.length cm,.slice ab n cb] 130)=W1 at HO HI ⊢
 generalize (Value.slice (some ⟨W.heap.size,0,none⟩) 1 1)=v0 at HO ⊢
 clear kA hA d3 d4 d5 kB e4
 go_loopw [3,17] (fun v3 v17 wr=>∃(i:Nat) (sv:Value),i<=n/\v3=sv/\v17=.int .i64 (i:Int)/\Hid (Kept w wr/\RowL 92 wr p [.int .i64 m,.int .i64 x,.int .i64 meth,.slice am ms.length cm,.slice ab n cb,.slice ac cd.length cc]/\wr.ownsRow (p+1) 130 3 sv (i+1) (([.slice ac cd.length cc,.slice am ms.length cm,.slice ab n cb]::(scTail C 0 (ss.take i)).map SCE.cells).flatten))) (fun _ v17 _=>n-(intOf v17).toNat)
 case atStart=>exact⟨0,v0,Nat.zero_le _,rfl,rfl,HI.out.1,HI.out.2,by simpa[scTail]using HO.out⟩
 case round=>
  obtain⟨i,sv,hil,rfl,rfl,H⟩:=hrel
  clear HI HO
  by_cases hit:i<n
  ·have hii:(i:Int)<(n:Int):=by omega
   have hi0:(0:Int)<=(i:Int):=by omega
   have hic:(i:Int)<=(cb:Int):=by omega
   have hiS:i<ss.length:=by have:=HN.out;omega
   have hRk:=HSS.out.1.kept H.out.1
   have hnl:=hRk.len
   obtain⟨ao',cap',hv,hx⟩:=hRk
   simp only[Value.slice.injEq]at hv
   obtain⟨rfl,hn,rfl⟩:=hv
   obtain⟨b,off,rfl,hb,hc⟩:=hx (by omega)
   have hxx:=map_getD SE.cells ss i hiS
   obtain⟨S,hS⟩:∃S:SE,S=ss[i]:=⟨_,rfl⟩
   rw[<-hS]at hxx
   have HTK:=hid' (show ss.take (i+1)=ss.take i++[S] by rw[hS,List.take_succ_eq_append_getElem hiS])
   have HAi:=hid' (HAT.out i S (by omega))
   obtain⟨nm,ports,ap,cp,cards,sac,scc⟩:=S
   have c0:=hc i (by omega) 0 (by omega)
   have c1:=hc i (by omega) 1 (by omega)
   have c2:=hc i (by omega) 2 (by omega)
   rw[hxx]at c0 c1 c2
   simp only[SE.cells,List.getD_cons_zero]at c0
   simp only[SE.cells,List.getD_cons_zero,List.getD_cons_succ]at c1
   simp only[SE.cells,List.getD_cons_zero,List.getD_cons_succ]at c2
   rw[Nat.add_zero]at c0
   generalize X.bs nm=s at c0
   clear hx hc hn hxx hb hS hnl
   have kS:=(Kept.refl wr).alloc (.cells #[.string s,.slice ap ports.length cp,.slice sac cards.length scc] 125)
   have hSr:=RowL.alloc 125 wr [.string s,.slice ap ports.length cp,.slice sac cards.length scc]
   go_upto_region 5 with fail
   generalize wr.alloc (.cells #[.string s,.slice ap ports.length cp,.slice sac cards.length scc] 125)=W2 at kS hSr ⊢
   obtain⟨q,hq⟩:∃q,q=wr.heap.size:=⟨_,rfl⟩
   rw[<-hq]at hSr ⊢
   clear hq
   have HH:=hid' (And.intro (H.out.1.trans kS) (And.intro (H.out.2.1.kept kS) (And.intro (own_kept H.out.2.2 (fun b hb=>kS.block b (H.out.2.2.lt b hb).2)) hSr)))
   have hps:p+1<=W2.heap.size:=by have:=(H.out.2.1.kept kS).lt;omega
   clear kS hSr c0 c1 c2
   have sS:=hid' (fun (V:World) (K:Kept W2 V)=>And.intro ((HH.out.2.1.kept K).cell 3 (.slice am ms.length cm)) (And.intro ((HH.out.2.1.kept K).cell 4 (.slice (some ⟨b,off,none⟩) n cb)) ((HH.out.2.2.2.kept K).cell 2 (.slice sac cards.length scc))))
   have KT:Kept W2 W2.drew:=(Kept.refl _).drew
   refine wp_region_held_drew (S:=fun w'=>w'.cell? ⟨p,3,none⟩=some (.slice am ms.length cm)/\w'.cell? ⟨p,4,none⟩=some (.slice (some ⟨b,off,none⟩) n cb)/\w'.cell? ⟨q,2,none⟩=some (.slice sac cards.length scc)) (by kernel_rfl) (sS.out _ KT) (fun hHeld=>?_)
   generalize W2.drew=Wd at KT hHeld ⊢
   refine tk 0 hHeld ?_
   refine tk 1 hHeld ?_
   refine tk 2 hHeld ?_
   refine tk 3 hHeld ?_
   refine tk 4 hHeld ?_
   refine tk 5 hHeld ?_
   refine tk 6 hHeld ?_
   refine tk 7 hHeld ?_
   refine tk 8 hHeld ?_
   refine tk 9 hHeld ?_
   refine rdy 10 fun K hK=>?_
   go_simp
   refine hK.out _ _ (sS.out _ (KT.alloc _)) (fun hHeld=>?_)
   clear hK K
   refine rdy 11 fun K hK=>?_
   have Hm:=cell_three Wd (.slice sac cards.length scc) (.slice am ms.length cm) (.slice (some ⟨b,off,none⟩) i cb) 130
   have KT:=KT.alloc (.cells #[.slice sac cards.length scc,.slice am ms.length cm,.slice (some ⟨b,off,none⟩) i cb] 130)
   have own0:=own_kept HH.out.2.2.1 (fun b hb=>KT.block b (HH.out.2.2.1.lt b hb).2)
   refine wp_append_lies _ (.tmp 22) (.tmp 32) 128 rfl (p+1) 130 i0 (.agg #[.slice none 0 0,.slice none 0 0,.slice none 0 0]) 3 72 und_scopes hi hz0 hz1 hz2 rfl (by decide) _ (i+1) _ rfl own0 ⟨Wd.heap.size,0,none⟩ 1 1 [.slice sac cards.length scc,.slice am ms.length cm,.slice (some ⟨b,off,none⟩) i cb] rfl rfl Hm (fun u hu=>by simp at hu;rcases hu with rfl|rfl|rfl <;> rfl) (by omega) (by unfold maxLen;omega) (by omega) (Nat.le_trans hps KT.size) _ rfl ?_
   intro g4 cap4 W4 own4 hg4 hgg _
   have hP4:=HH.out.2.1.kept KT
   have hQ4:=HH.out.2.2.2.kept KT
   have np:=own_row own0 hP4 (by decide)
   have nq:=own_row own0 hQ4 (by decide)
   have hP5:=hP4.block (hg4.block p hP4.lt (fun e=>np e.symm))
   have hQ5:=hQ4.block (hg4.block q hQ4.lt (fun e=>nq e.symm))
   have HF:=hid' (show Kept w W4 from Below.grown (HH.out.1.trans KT) hg4 (HH.out.1.trans KT).size (fun k hk=>by have:=(own0.lt k hk).1;have:=HP.out;omega))
   have HF2:=hid' (And.intro hP5 (show W4.ownsRow (p+1) 130 3 (.slice (some ⟨g4,0,none⟩) (i+1+1) cap4) (i+1+1) (([.slice ac cd.length cc,.slice am ms.length cm,.slice (some ⟨b,off,none⟩) n cb]::(scTail C 0 (ss.take (i+1))).map SCE.cells).flatten) by
    rw[HTK.out,scTail_app,List.map_append,<-List.cons_append,List.flatten_append,Nat.zero_add,List.length_take,Nat.min_eq_left (by omega)]
    show W4.ownsRow _ _ _ _ _ (_++[(scAt C i _).cells].flatten)
    rw[HAi.out]
    exact own4))
   refine hK.out _ _ ⟨hP5.cell 3 _,hP5.cell 4 _,hQ5.cell 2 _⟩ (fun hHeld=>?_)
   clear hK K own4 hg4 hgg hP4 hQ4 np nq hP5 hQ5 own0 Hm KT
   refine tk 12 hHeld ?_
   refine dn ?_
   go_wp2_with fail
   go_roundw
   case rel=>exact⟨i+1,_,by omega,rfl,by go_num,HF.out,HF2.out.1,HF2.out.2⟩
   case measure=>show n-((i:Int)+1).toNat<n-(i:Int).toNat;omega
  ·have hii:¬(i:Int)<(n:Int):=by omega
   obtain rfl:i=n:=by omega
   obtain⟨a9,k9,rfl⟩:=own_shape H.out.2.2
   have HF:=hid' (show wr.ownsRow (p+1) 130 3 (.slice a9 (i+1) k9) (i+1) ((scOf C).map SCE.cells).flatten by
    rw[HCC.out.2.2]
    have:=H.out.2.2
    rw[List.take_of_length_le (by have:=HN.out;omega)]at this
    exact this)
   go_wp2_with fail
   go_ret
   refine⟨H.out.1,a9,k9,by rw[HLN.out];rfl,?_⟩
   rw[HLN.out]
   exact own_rows HF.out (by rw[List.length_map,HLN.out]) (cells_sc _)
open Q (hid' Lett ErrV Tab)
open X (RS)
def scBad (e:SCE):Bool:=e.cd.any fun x=>!cardB x
def twM (l:List ME):Bool:=twiceB (fun j=>nameC ((l.map ME.cells).getD j [])) l.length
def twS (l:List SE):Bool:=twiceB (fun j=>nameC ((l.map SE.cells).getD j [])) l.length
def twC (l:List CE):Bool:=twiceB (fun j=>nameC ((l.map CE.cells).getD j [])) l.length
def twP (l:List (List UInt8)):Bool:=twiceB (fun j=>X.bs (l.getD j [])) l.length
def manyB (c:Ci):Bool:=decide (16<c.ms.length)||(decide (8<c.ss.length)||(scOf c).any fun s=>decide (64<s.cd.length))
def twoB (c:Ci):Bool:=twM c.ms||(twS c.ss||((c.ss.any fun s=>twP s.ports)||(scOf c).any fun s=>twC s.cd))
theorem scOf_len {c:Ci}(h:c.sz):(scOf c).length<=9223372036854775807:=by
 show (scTail c 0 c.ss).length+1<=_
 rw[scTail_len]
 have:=h.s3
 omega
theorem sc_con {c:Ci}{V:World}(g:Nat)(q:SCE->Bool)(hq:∀j (hj:j<(scOf c).length) (W:World),Kept V W->Calls Tryz.prog g #[.agg (scOf c)[j].cells.toArray] W fun e w'=>e=.returned (.bool (q (scOf c)[j]))/\Kept W w')(eg:∀args w,(callFunc g args).run Tryz.prog w=.ok (.enter g args) w){ao:Option Addr}{k:Nat}(hz:c.sz)
  (hr:RowsR 3 V (.slice ao (scOf c).length k) ((scOf c).map SCE.cells)):Calls Tryz.prog 98 #[.slice ao (scOf c).length k,.func (.func g) #[] #[]] V fun e w'=>Kept V w'/\e=.returned (.bool ((scOf c).any q)):=by
 have hc:=con_scopes g #[] (fun j=>if hj:j<(scOf c).length then q (scOf c)[j] else false) eg ao (scOf c).length k ((scOf c).map SCE.cells) V (fun W j hV hj=>by
  rw[map_getD SCE.cells (scOf c) j hj,dif_pos hj]
  exact(hq j hj W hV).mono (fun r w' k=>⟨k.1,hV.trans k.2⟩)) hr (cells_sc _) (scOf_len hz)
 rw[any_get (scOf c) q _ (fun j hj=>by rw[dif_pos hj])]at hc
 exact hc
theorem rightCards1 (e:SCE)(w:World)(hL:Lett w)(hE:ErrV w)(hT:Tab w)(h:e.ok w)(hz:e.sz) :
  Calls Tryz.prog 100 #[.agg e.cells.toArray] w fun r w'=>r=.returned (.bool (scBad e))/\Kept w w':=by
 have hc:=fun V (K:Kept w V)=>con_cards 102 #[] (fun j=>if hj:j<e.cd.length then !cardB e.cd[j] else false) (fun _ _=>by simp) e.ac e.cd.length e.cc (e.cd.map CE.cells) V (fun W j hV hj=>by
  rw[map_getD CE.cells e.cd j hj,dif_pos hj]
  exact(rightCard11 e.cd[j] W (hL.kept (K.trans hV)) (hE.kept (K.trans hV)) (hT.kept (K.trans hV)) ((h.1.2 _ (List.getElem_mem hj)).kept (K.trans hV)) (hz.1.2.2 _ (List.getElem_mem hj))).mono (fun r w' k=>⟨k.1,hV.trans k.2⟩)) (h.1.kept K).1 (fun x hx=>(cells_c e.cd x hx).len) (Nat.le_trans hz.1.1 hz.1.2.1)
 have e9:=any_get e.cd (fun x=>!cardB x) (fun j=>if hj:j<e.cd.length then !cardB e.cd[j] else false) (fun j hj=>by rw[dif_pos hj])
 simp only[e9]at hc
 clear e9
 have HC:=hid' hc
 have HB:=hid' (show scBad e=(e.cd.any fun x=>!cardB x) from rfl)
 generalize scBad e=bb at HB ⊢
 generalize (e.cd.any fun x=>!cardB x)=b2 at HC HB
 obtain⟨cd,ac,cc,ms,am,cm,ss,ab,cb⟩:=e
 show Calls Tryz.prog 100 #[.agg #[.slice ac cd.length cc,.slice am ms.length cm,.slice ab ss.length cb]] w _
 clear hc h hz hL hE hT
 have kA:=(Kept.refl w).alloc (.cells #[.slice ac cd.length cc,.slice am ms.length cm,.slice ab ss.length cb] 130)
 go_enter Tryz.func100,Tryz.ntmps100
 go_wp2_with fail
 refine(HC.out _ kA).mono ?_
 rintro r w2 ⟨hk,rfl⟩
 have HK:=hid' (kA.trans hk)
 clear kA hk
 go_wp2_with fail
 go_ret
 exact⟨by rw[HB.out];rfl,HK.out⟩
theorem rightCards_any (c:Ci)(w:World)(hL:Lett w)(hE:ErrV w)(hT:Tab w)(h:c.ok w)(hz:c.sz) :
  Calls Tryz.prog 71 #[.agg c.cells.toArray] w fun r w'=>Kept w w'/\r=.returned (.bool (!((scOf c).any scBad))):=by
 have HS:=hid' (fun V (K:Kept w V)=>scopes_any c V (h.kept K) hz)
 have HQ:=hid' (fun V (K:Kept w V) ao k hr=>sc_con (c:=c) (V:=V) 100 scBad (fun j hj W hW=>rightCards1 (scOf c)[j] W (hL.kept (K.trans hW)) (hE.kept (K.trans hW)) (hT.kept (K.trans hW)) ((scOf_ok h _ (List.getElem_mem hj)).kept (K.trans hW)) (scOf_sz hz _ (List.getElem_mem hj))) (fun _ _=>by simp) (ao:=ao) (k:=k) hz hr)
 generalize (scOf c).any scBad=bb at HQ ⊢
 obtain⟨m,x,meth,ms,am,cm,ss,ab,cb,cd,ac,cc⟩:=c
 obtain⟨C,hC⟩:∃C:Ci,C=⟨m,x,meth,ms,am,cm,ss,ab,cb,cd,ac,cc⟩:=⟨_,rfl⟩
 rw[<-hC]at HS HQ
 have HCC:Hid (C.cells=[.int .i64 m,.int .i64 x,.int .i64 meth,.slice am ms.length cm,.slice ab ss.length cb,.slice ac cd.length cc]):=by subst hC;exact rfl
 have HS2:=hid' (show ∀V,Kept w V->Calls Tryz.prog 99 #[.agg #[.int .i64 m,.int .i64 x,.int .i64 meth,.slice am ms.length cm,.slice ab ss.length cb,.slice ac cd.length cc]] V fun r w'=>Kept V w'/\∃ao k,r=.returned (.slice ao (scOf C).length k)/\RowsR 3 w' (.slice ao (scOf C).length k) ((scOf C).map SCE.cells) by
  intro V K
  have:=HS.out V K
  rw[HCC.out]at this
  exact this)
 show Calls Tryz.prog 71 #[.agg #[.int .i64 m,.int .i64 x,.int .i64 meth,.slice am ms.length cm,.slice ab ss.length cb,.slice ac cd.length cc]] w _
 clear h hz hL hE hT hC HS HCC
 have kA:=(Kept.refl w).alloc (.cells #[.int .i64 m,.int .i64 x,.int .i64 meth,.slice am ms.length cm,.slice ab ss.length cb,.slice ac cd.length cc] 92)
 go_enter Tryz.func71,Tryz.ntmps71
 go_wp2_with fail
 refine(HS2.out _ kA).mono ?_
 rintro r w2 ⟨hk,ao,k,rfl,hr⟩
 have HK:=hid' (kA.trans hk)
 have HR:=hid' (HQ.out _ HK.out ao k hr)
 clear kA hk hr
 go_wp2_with fail
 refine HR.out.mono ?_
 rintro r w3 ⟨hk,rfl⟩
 have HK:=hid' (HK.out.trans hk)
 clear hk
 go_wp2_with fail
 go_ret
 exact⟨HK.out,rfl⟩
theorem tooMany1 (e:SCE)(w:World):Calls Tryz.prog 104 #[.agg e.cells.toArray] w fun r w'=>r=.returned (.bool (decide (64<e.cd.length)))/\Kept w w':=by
 obtain⟨cd,ac,cc,ms,am,cm,ss,ab,cb⟩:=e
 show Calls Tryz.prog 104 #[.agg #[.slice ac cd.length cc,.slice am ms.length cm,.slice ab ss.length cb]] w fun r w'=>r=.returned (.bool (decide (64<cd.length)))/\Kept w w'
 generalize cd.length=n
 have kA:=(Kept.refl w).alloc (.cells #[.slice ac n cc,.slice am ms.length cm,.slice ab ss.length cb] 130)
 by_cases h:64<n
 ·have hi:(64:Int)<(n:Int):=by omega
  have HE:=hid' (decide_eq_true h)
  clear h
  go_enter Tryz.func104,Tryz.ntmps104
  go_wp2_with fail
  go_ret
  exact⟨by rw[HE.out];rfl,kA⟩
 ·have hi:¬(64:Int)<(n:Int):=by omega
  have HE:=hid' (decide_eq_false h)
  clear h
  go_enter Tryz.func104,Tryz.ntmps104
  go_wp2_with fail
  go_ret
  exact⟨by rw[HE.out];rfl,kA⟩
theorem tooMany_any (c:Ci)(w:World)(h:c.ok w)(hz:c.sz) :
  Calls Tryz.prog 72 #[.agg c.cells.toArray] w fun r w'=>Kept w w'/\r=.returned (.bool (manyB c)):=by
 have HS:=hid' (fun V (K:Kept w V)=>scopes_any c V (h.kept K) hz)
 have HQ:=hid' (fun V (_:Kept w V) ao k hr=>sc_con (c:=c) (V:=V) 104 (fun s=>decide (64<s.cd.length)) (fun j _ W _=>tooMany1 (scOf c)[j] W) (fun _ _=>by simp) (ao:=ao) (k:=k) hz hr)
 have HB:=hid' (show manyB c=(decide (16<c.ms.length)||(decide (8<c.ss.length)||(scOf c).any fun s=>decide (64<s.cd.length))) from rfl)
 generalize ((scOf c).any fun s=>decide (64<s.cd.length))=bb at HQ HB
 generalize manyB c=mb at HB ⊢
 obtain⟨m,x,meth,ms,am,cm,ss,ab,cb,cd,ac,cc⟩:=c
 obtain⟨C,hC⟩:∃C:Ci,C=⟨m,x,meth,ms,am,cm,ss,ab,cb,cd,ac,cc⟩:=⟨_,rfl⟩
 rw[<-hC]at HS HQ
 have HCC:Hid (C.cells=[.int .i64 m,.int .i64 x,.int .i64 meth,.slice am ms.length cm,.slice ab ss.length cb,.slice ac cd.length cc]):=by subst hC;exact rfl
 have HS2:=hid' (show ∀V,Kept w V->Calls Tryz.prog 99 #[.agg #[.int .i64 m,.int .i64 x,.int .i64 meth,.slice am ms.length cm,.slice ab ss.length cb,.slice ac cd.length cc]] V fun r w'=>Kept V w'/\∃ao k,r=.returned (.slice ao (scOf C).length k)/\RowsR 3 w' (.slice ao (scOf C).length k) ((scOf C).map SCE.cells) by
  intro V K
  have:=HS.out V K
  rw[HCC.out]at this
  exact this)
 show Calls Tryz.prog 72 #[.agg #[.int .i64 m,.int .i64 x,.int .i64 meth,.slice am ms.length cm,.slice ab ss.length cb,.slice ac cd.length cc]] w _
 clear h hz hC HS HCC
 simp only at HB
 generalize ms.length=n1 at HS2 HB ⊢
 generalize ss.length=n2 at HS2 HB ⊢
 have kA:=(Kept.refl w).alloc (.cells #[.int .i64 m,.int .i64 x,.int .i64 meth,.slice am n1 cm,.slice ab n2 cb,.slice ac cd.length cc] 92)
 by_cases h1:16<n1
 ·have h1i:(16:Int)<(n1:Int):=by omega
  have HE:=hid' (show mb=true by rw[HB.out,decide_eq_true h1];rfl)
  go_enter Tryz.func72,Tryz.ntmps72
  go_wp2_with fail
  go_ret
  exact⟨kA,by rw[HE.out];rfl⟩
 have h1i:¬(16:Int)<(n1:Int):=by omega
 rw[decide_eq_false h1]at HB
 by_cases h2:8<n2
 ·have h2i:(8:Int)<(n2:Int):=by omega
  have HE:=hid' (show mb=true by rw[HB.out,decide_eq_true h2];rfl)
  go_enter Tryz.func72,Tryz.ntmps72
  go_wp2_with fail
  go_ret
  exact⟨kA,by rw[HE.out];rfl⟩
 have h2i:¬(8:Int)<(n2:Int):=by omega
 have HE:=hid' (show mb=bb by rw[HB.out,decide_eq_false h2];rfl)
 go_enter Tryz.func72,Tryz.ntmps72
 go_wp2_with fail
 refine(HS2.out _ kA).mono ?_
 rintro r w2 ⟨hk,ao,k,rfl,hr⟩
 have HK:=hid' (kA.trans hk)
 have HR:=hid' (HQ.out _ HK.out ao k hr)
 clear kA hk hr
 go_wp2_with fail
 refine HR.out.mono ?_
 rintro r w3 ⟨hk,rfl⟩
 have HK:=hid' (HK.out.trans hk)
 clear hk
 go_wp2_with fail
 go_ret
 exact⟨HK.out,by rw[HE.out];rfl⟩
theorem namedTwice1 (e:SE)(w:World)(h:e.ok w)(hz:e.sz):Calls Tryz.prog 109 #[.agg e.cells.toArray] w fun r w'=>r=.returned (.bool (twP e.ports))/\Kept w w':=by
 obtain⟨nm,ports,ap,cp,cards,ac,cc⟩:=e
 have HT:=hid' (fun V (K:Kept w V)=>twice_str ap ports.length cp ports V (h.1.kept K) hz.2.2.1.1 hz.2.2.1.2)
 show Calls Tryz.prog 109 #[.agg #[.string (X.bs nm),.slice ap ports.length cp,.slice ac cards.length cc]] w fun r w'=>r=.returned (.bool (twP ports))/\Kept w w'
 have HB:=hid' (show twP ports=twiceB (fun j=>X.bs (ports.getD j [])) ports.length from rfl)
 generalize twP ports=tb at HB ⊢
 generalize twiceB (fun j=>X.bs (ports.getD j [])) ports.length=t2 at HT HB
 generalize X.bs nm=s
 clear h hz
 have kA:=(Kept.refl w).alloc (.cells #[.string s,.slice ap ports.length cp,.slice ac cards.length cc] 125)
 go_enter Tryz.func109,Tryz.ntmps109
 go_wp2_with fail
 refine(HT.out _ kA).mono ?_
 rintro r w2 ⟨hk,rfl⟩
 have HK:=hid' (kA.trans hk)
 clear kA hk
 go_wp2_with fail
 go_ret
 exact⟨by rw[HB.out];rfl,HK.out⟩
theorem namedTwice2 (e:SCE)(w:World)(h:e.ok w)(hz:e.sz):Calls Tryz.prog 112 #[.agg e.cells.toArray] w fun r w'=>r=.returned (.bool (twC e.cd))/\Kept w w':=by
 have HT:=hid' (fun V (K:Kept w V)=>twice_card e.ac e.cd.length e.cc (e.cd.map CE.cells) V (h.1.kept K).1 (cells_c e.cd) hz.1.1 hz.1.2.1)
 have HB:=hid' (show twC e.cd=twiceB (fun j=>nameC ((e.cd.map CE.cells).getD j [])) e.cd.length from rfl)
 generalize twC e.cd=tb at HB ⊢
 generalize twiceB (fun j=>nameC ((e.cd.map CE.cells).getD j [])) e.cd.length=t2 at HT HB
 obtain⟨cd,ac,cc,ms,am,cm,ss,ab,cb⟩:=e
 show Calls Tryz.prog 112 #[.agg #[.slice ac cd.length cc,.slice am ms.length cm,.slice ab ss.length cb]] w _
 simp only at HT
 clear h hz
 have kA:=(Kept.refl w).alloc (.cells #[.slice ac cd.length cc,.slice am ms.length cm,.slice ab ss.length cb] 130)
 go_enter Tryz.func112,Tryz.ntmps112
 go_wp2_with fail
 refine(HT.out _ kA).mono ?_
 rintro r w2 ⟨hk,rfl⟩
 have HK:=hid' (kA.trans hk)
 clear kA hk
 go_wp2_with fail
 go_ret
 exact⟨by rw[HB.out];rfl,HK.out⟩
theorem namedTwice_any (c:Ci)(w:World)(h:c.ok w)(hz:c.sz) :
  Calls Tryz.prog 73 #[.agg c.cells.toArray] w fun r w'=>Kept w w'/\r=.returned (.bool (twoB c)):=by
 have HS:=hid' (fun V (K:Kept w V)=>scopes_any c V (h.kept K) hz)
 have HQ:=hid' (fun V (K:Kept w V) ao k hr=>sc_con (c:=c) (V:=V) 112 (fun s=>twC s.cd) (fun j hj W hW=>namedTwice2 (scOf c)[j] W ((scOf_ok h _ (List.getElem_mem hj)).kept (K.trans hW)) (scOf_sz hz _ (List.getElem_mem hj))) (fun _ _=>by simp) (ao:=ao) (k:=k) hz hr)
 have HM:=hid' (fun V (K:Kept w V)=>twice_model c.am c.ms.length c.cm (c.ms.map ME.cells) V (h.1.kept K).1 (cells_m c.ms) hz.m1.1 hz.m1.2)
 have HU:=hid' (fun V (K:Kept w V)=>twice_sub c.ab c.ss.length c.cb (c.ss.map SE.cells) V (h.2.1.kept K).1 (cells_s c.ss) hz.s1.1 hz.s1.2)
 have hp:=fun V (K:Kept w V)=>con_subs 109 #[] (fun j=>if hj:j<c.ss.length then twP c.ss[j].ports else false) (fun _ _=>by simp) c.ab c.ss.length c.cb (c.ss.map SE.cells) V (fun W j hV hj=>by
  rw[map_getD SE.cells c.ss j hj,dif_pos hj]
  exact(namedTwice1 c.ss[j] W ((h.2.1.2 _ (List.getElem_mem hj)).kept (K.trans hV)) (hz.s2 _ (List.getElem_mem hj))).mono (fun r w' k=>⟨k.1,hV.trans k.2⟩)) (h.2.1.kept K).1 (fun x hx=>(cells_s c.ss x hx).len) (by have:=hz.s3;omega)
 have e9:=any_get c.ss (fun s=>twP s.ports) (fun j=>if hj:j<c.ss.length then twP c.ss[j].ports else false) (fun j hj=>by rw[dif_pos hj])
 simp only[e9]at hp
 clear e9
 have HP:=hid' hp
 have HB:=hid' (show twoB c=(twM c.ms||(twS c.ss||((c.ss.any fun s=>twP s.ports)||(scOf c).any fun s=>twC s.cd))) from rfl)
 rw[show twM c.ms=twiceB (fun j=>nameC ((c.ms.map ME.cells).getD j [])) c.ms.length from rfl,show twS c.ss=twiceB (fun j=>nameC ((c.ss.map SE.cells).getD j [])) c.ss.length from rfl]at HB
 generalize twiceB (fun j=>nameC ((c.ms.map ME.cells).getD j [])) c.ms.length=t1 at HM HB
 generalize twiceB (fun j=>nameC ((c.ss.map SE.cells).getD j [])) c.ss.length=t2 at HU HB
 generalize (c.ss.any fun s=>twP s.ports)=t3 at HP HB
 generalize ((scOf c).any fun s=>twC s.cd)=t4 at HQ HB
 generalize twoB c=mb at HB ⊢
 obtain⟨m,x,meth,ms,am,cm,ss,ab,cb,cd,ac,cc⟩:=c
 obtain⟨C,hC⟩:∃C:Ci,C=⟨m,x,meth,ms,am,cm,ss,ab,cb,cd,ac,cc⟩:=⟨_,rfl⟩
 rw[<-hC]at HS HQ
 have HCC:Hid (C.cells=[.int .i64 m,.int .i64 x,.int .i64 meth,.slice am ms.length cm,.slice ab ss.length cb,.slice ac cd.length cc]):=by subst hC;exact rfl
 have HS2:=hid' (show ∀V,Kept w V->Calls Tryz.prog 99 #[.agg #[.int .i64 m,.int .i64 x,.int .i64 meth,.slice am ms.length cm,.slice ab ss.length cb,.slice ac cd.length cc]] V fun r w'=>Kept V w'/\∃ao k,r=.returned (.slice ao (scOf C).length k)/\RowsR 3 w' (.slice ao (scOf C).length k) ((scOf C).map SCE.cells) by
  intro V K
  have:=HS.out V K
  rw[HCC.out]at this
  exact this)
 show Calls Tryz.prog 73 #[.agg #[.int .i64 m,.int .i64 x,.int .i64 meth,.slice am ms.length cm,.slice ab ss.length cb,.slice ac cd.length cc]] w _
 simp only at HM HU HP
 clear h hz hC HS HCC hp
 generalize ms.length=n1 at HS2 HM ⊢
 generalize ss.length=n2 at HS2 HU HP ⊢
 generalize cd.length=n3 at HS2 ⊢
 have kA:=(Kept.refl w).alloc (.cells #[.int .i64 m,.int .i64 x,.int .i64 meth,.slice am n1 cm,.slice ab n2 cb,.slice ac n3 cc] 92)
 have hA:=RowL.alloc 92 w [.int .i64 m,.int .i64 x,.int .i64 meth,.slice am n1 cm,.slice ab n2 cb,.slice ac n3 cc]
 go_enter Tryz.func73,Tryz.ntmps73
 go_upto_region 1 with fail
 generalize w.alloc (.cells #[.int .i64 m,.int .i64 x,.int .i64 meth,.slice am n1 cm,.slice ab n2 cb,.slice ac n3 cc] 92)=W at kA hA ⊢
 obtain⟨p,hp⟩:∃q,q=w.heap.size:=⟨_,rfl⟩
 rw[<-hp]at hA ⊢
 clear hp
 have HA:=hid' hA
 have HK:=hid' kA
 have f3:=hA.cell 3 (.slice am n1 cm)
 clear hA kA
 go_wp2_with fail
 refine(HM.out _ HK.out).mono ?_
 rintro r w1 ⟨hk,rfl⟩
 have HK:=hid' (HK.out.trans hk)
 have HA:=hid' (HA.out.kept hk)
 have f4:=HA.out.cell 4 (.slice ab n2 cb)
 clear hk f3
 cases t1
 rotate_left
 ·have HE:=hid' (show mb=true by rw[HB.out];rfl)
  go_wp2_with fail
  go_ret
  exact⟨HK.out,by rw[HE.out];rfl⟩
 go_wp2_with fail
 refine(HU.out _ HK.out).mono ?_
 rintro r w2 ⟨hk,rfl⟩
 have HK:=hid' (HK.out.trans hk)
 have HA:=hid' (HA.out.kept hk)
 clear f4
 have f4:=HA.out.cell 4 (.slice ab n2 cb)
 clear hk
 cases t2
 rotate_left
 ·have HE:=hid' (show mb=true by rw[HB.out];rfl)
  go_wp2_with fail
  go_ret
  exact⟨HK.out,by rw[HE.out];rfl⟩
 go_wp2_with fail
 refine(HP.out _ HK.out).mono ?_
 rintro r w3 ⟨hk,rfl⟩
 have HK:=hid' (HK.out.trans hk)
 have HA:=hid' (HA.out.kept hk)
 clear f4 hk
 have f0:=HA.out.cell 0 (.int .i64 m)
 have f1:=HA.out.cell 1 (.int .i64 x)
 have f2:=HA.out.cell 2 (.int .i64 meth)
 have f3:=HA.out.cell 3 (.slice am n1 cm)
 have f4:=HA.out.cell 4 (.slice ab n2 cb)
 have f5:=HA.out.cell 5 (.slice ac n3 cc)
 cases t3
 rotate_left
 ·have HE:=hid' (show mb=true by rw[HB.out];rfl)
  go_wp2_with fail
  go_ret
  exact⟨HK.out,by rw[HE.out];rfl⟩
 have HE:=hid' (show mb=t4 by rw[HB.out];rfl)
 go_wp2_with fail
 refine(HS2.out _ HK.out).mono ?_
 rintro r w4 ⟨hk,ao,k,rfl,hr⟩
 have HK:=hid' (HK.out.trans hk)
 have HR:=hid' (HQ.out _ HK.out ao k hr)
 clear hk hr f0 f1 f2 f3 f4 f5
 go_wp2_with fail
 refine HR.out.mono ?_
 rintro r w5 ⟨hk,rfl⟩
 have HK:=hid' (HK.out.trans hk)
 clear hk
 go_wp2_with fail
 go_ret
 exact⟨HK.out,by rw[HE.out];rfl⟩
open Q (parseOf okN textOf)
open Q (parseOf okN textOf)
def nodesN (q:UInt8)(n:Nat):Bool:=if q=101∨q=103∨q=116∨q=115 then decide (n=4) else if q=120 then decide (1<=n/\n<=8) else decide (n=2)
structure RightC (c:Cd):Prop where
 dev:devB c.name=true
 cnt:nodesN (c.name.getD 0 0) c.nodes.length=true
 nds:∀x∈c.nodes,okName x=true
 ref:if refC (c.name.getD 0 0)=true then okName c.ref=true/\((c.name.getD 0 0=102∨c.name.getD 0 0=104)->c.ref.getD 0 0=118) else c.ref=[]
 val:if valueC (c.name.getD 0 0)=true then okN c.val.1 c.val.2=true/\(zeroC (c.name.getD 0 0)=true->c.val.1≠0) else c.val=(0,0)
 wav:if waveC (c.name.getD 0 0)=true then okW c.kind c.vals c.steps=true else c.kind=0/\c.vals=[]/\c.steps=[]
open Q (parseOf okN textOf)
end V
end Go.Proofs.YtdjhmgmjiglcbaaGreatDoor
