/- Lemmas. -/
import Derived.Test.YtdjhmgmjiglcbaaGreatDoorGbe
import Derived.Test.YtdjhmgmjiglcbaaGreatDoorGay
set_option maxRecDepth 100000
set_option maxHeartbeats 8000000
namespace Go.Proofs.YtdjhmgmjiglcbaaGreatDoor
open Go.RowKit
namespace V
open Q (hid' Lett ErrV Tab)
open X (RS)
structure DE where
 kind:Int
 name:List UInt8
 nodes:List Int
 an:Option Addr
 cn:Nat
 ref:Int
 vm:Int
 vx:Int
 wk:Int
 wv:List (Int×Int)
 av:Option Addr
 cv:Nat
 ws:List Int
 ai:Option Addr
 ci:Nat
 md:Md
 a1:Option Addr
 c1:Nat
 a2:Option Addr
 c2:Nat
def DE.cells (d:DE):List Value:=[.int .u8 d.kind,.string (X.bs d.name),.slice d.an d.nodes.length d.cn,.int .i64 d.ref,.int .i64 d.vm,.int .i64 d.vx,.int .i64 d.wk,.slice d.av d.wv.length d.cv,.slice d.ai d.ws.length d.ci,.string (X.bs d.md.name),.int .u8 d.md.kind,.slice d.a1 d.md.gs.length d.c1,.slice d.a2 d.md.vs.length d.c2]
structure DE.ok (w:World) (d:DE):Prop where
 nodes:ISl w (.slice d.an d.nodes.length d.cn) d.nodes
 wv:NSl w (.slice d.av d.wv.length d.cv) d.wv
 ws:ISl w (.slice d.ai d.ws.length d.ci) d.ws
 gs:NSl w (.slice d.a1 d.md.gs.length d.c1) d.md.gs
 vs:NSl w (.slice d.a2 d.md.vs.length d.c2) d.md.vs
theorem DE.ok.kept {w w':World}{d:DE}(h:d.ok w)(k:Kept w w'):d.ok w':=⟨h.nodes.kept k,h.wv.kept k,h.ws.kept k,h.gs.kept k,h.vs.kept k⟩
def DsR (w:World)(v:Value)(l:List DE):Prop:=RowsR 13 w v (l.map DE.cells)/\∀d∈l,d.ok w
theorem DsR.kept {w w':World}{v:Value}{l:List DE}(h:DsR w v l)(k:Kept w w'):DsR w' v l:=⟨h.1.kept k,fun e he=>(h.2 e he).kept k⟩
def endsN (k:Int):Int:=if k∈([114,99,108,118,105,102,104,100]:List Int) then 2 else if k∈([101,103,116,115]:List Int) then 4 else 0
def hasBr (k:Int):Bool:=decide (k∈([118,101,104,99,108,116]:List Int))
def hasMd (k:Int):Bool:=decide (k∈([100,115]:List Int))
def hasRf (k:Int):Bool:=decide (k∈([102,104]:List Int))
theorem endsOf_any (k:Int)(w:World):Calls Tryz.prog 77 #[.int .u8 k] w fun e w'=>e=.returned (.int .i64 (endsN k))/\w'=w:=by
 by_cases h0:k=114
 ·subst h0
  go_enter Tryz.func77,Tryz.ntmps77
  go_wp2_with fail
  go_ret
  exact⟨rfl,rfl⟩
 have b0:(k == 114)=false:=by simpa using h0
 by_cases h1:k=99
 ·subst h1
  go_enter Tryz.func77,Tryz.ntmps77
  go_wp2_with fail
  go_ret
  exact⟨rfl,rfl⟩
 have b1:(k == 99)=false:=by simpa using h1
 by_cases h2:k=108
 ·subst h2
  go_enter Tryz.func77,Tryz.ntmps77
  go_wp2_with fail
  go_ret
  exact⟨rfl,rfl⟩
 have b2:(k == 108)=false:=by simpa using h2
 by_cases h3:k=118
 ·subst h3
  go_enter Tryz.func77,Tryz.ntmps77
  go_wp2_with fail
  go_ret
  exact⟨rfl,rfl⟩
 have b3:(k == 118)=false:=by simpa using h3
 by_cases h4:k=105
 ·subst h4
  go_enter Tryz.func77,Tryz.ntmps77
  go_wp2_with fail
  go_ret
  exact⟨rfl,rfl⟩
 have b4:(k == 105)=false:=by simpa using h4
 by_cases h5:k=102
 ·subst h5
  go_enter Tryz.func77,Tryz.ntmps77
  go_wp2_with fail
  go_ret
  exact⟨rfl,rfl⟩
 have b5:(k == 102)=false:=by simpa using h5
 by_cases h6:k=104
 ·subst h6
  go_enter Tryz.func77,Tryz.ntmps77
  go_wp2_with fail
  go_ret
  exact⟨rfl,rfl⟩
 have b6:(k == 104)=false:=by simpa using h6
 by_cases h7:k=100
 ·subst h7
  go_enter Tryz.func77,Tryz.ntmps77
  go_wp2_with fail
  go_ret
  exact⟨rfl,rfl⟩
 have b7:(k == 100)=false:=by simpa using h7
 by_cases h8:k=101
 ·subst h8
  go_enter Tryz.func77,Tryz.ntmps77
  go_wp2_with fail
  go_ret
  exact⟨rfl,rfl⟩
 have b8:(k == 101)=false:=by simpa using h8
 by_cases h9:k=103
 ·subst h9
  go_enter Tryz.func77,Tryz.ntmps77
  go_wp2_with fail
  go_ret
  exact⟨rfl,rfl⟩
 have b9:(k == 103)=false:=by simpa using h9
 by_cases h10:k=116
 ·subst h10
  go_enter Tryz.func77,Tryz.ntmps77
  go_wp2_with fail
  go_ret
  exact⟨rfl,rfl⟩
 have b10:(k == 116)=false:=by simpa using h10
 by_cases h11:k=115
 ·subst h11
  go_enter Tryz.func77,Tryz.ntmps77
  go_wp2_with fail
  go_ret
  exact⟨rfl,rfl⟩
 have b11:(k == 115)=false:=by simpa using h11
 have e:endsN k=0:=by unfold endsN;rw[if_neg (by simp only[List.mem_cons,List.not_mem_nil,or_false];omega),if_neg (by simp only[List.mem_cons,List.not_mem_nil,or_false];omega)]
 rw[e]
 clear e
 go_enter Tryz.func77,Tryz.ntmps77
 go_wp2_with fail
 go_ret
 exact⟨rfl,rfl⟩
theorem hasBranch_any (k:Int)(w:World):Calls Tryz.prog 61 #[.int .u8 k] w fun e w'=>e=.returned (.bool (hasBr k))/\w'=w:=by
 by_cases h0:k=118
 ·subst h0
  go_enter Tryz.func61,Tryz.ntmps61
  go_wp2_with fail
  go_ret
  exact⟨rfl,rfl⟩
 have b0:(k == 118)=false:=by simpa using h0
 by_cases h1:k=101
 ·subst h1
  go_enter Tryz.func61,Tryz.ntmps61
  go_wp2_with fail
  go_ret
  exact⟨rfl,rfl⟩
 have b1:(k == 101)=false:=by simpa using h1
 by_cases h2:k=104
 ·subst h2
  go_enter Tryz.func61,Tryz.ntmps61
  go_wp2_with fail
  go_ret
  exact⟨rfl,rfl⟩
 have b2:(k == 104)=false:=by simpa using h2
 by_cases h3:k=99
 ·subst h3
  go_enter Tryz.func61,Tryz.ntmps61
  go_wp2_with fail
  go_ret
  exact⟨rfl,rfl⟩
 have b3:(k == 99)=false:=by simpa using h3
 by_cases h4:k=108
 ·subst h4
  go_enter Tryz.func61,Tryz.ntmps61
  go_wp2_with fail
  go_ret
  exact⟨rfl,rfl⟩
 have b4:(k == 108)=false:=by simpa using h4
 by_cases h5:k=116
 ·subst h5
  go_enter Tryz.func61,Tryz.ntmps61
  go_wp2_with fail
  go_ret
  exact⟨rfl,rfl⟩
 have b5:(k == 116)=false:=by simpa using h5
 have e:hasBr k=false:=by unfold hasBr;exact decide_eq_false (by simp only[List.mem_cons,List.not_mem_nil,or_false];omega)
 rw[e]
 clear e
 go_enter Tryz.func61,Tryz.ntmps61
 go_wp2_with fail
 go_ret
 exact⟨rfl,rfl⟩
theorem hasModel_any (k:Int)(w:World):Calls Tryz.prog 81 #[.int .u8 k] w fun e w'=>e=.returned (.bool (hasMd k))/\w'=w:=by
 by_cases h0:k=100
 ·subst h0
  go_enter Tryz.func81,Tryz.ntmps81
  go_wp2_with fail
  go_ret
  exact⟨rfl,rfl⟩
 have b0:(k == 100)=false:=by simpa using h0
 by_cases h1:k=115
 ·subst h1
  go_enter Tryz.func81,Tryz.ntmps81
  go_wp2_with fail
  go_ret
  exact⟨rfl,rfl⟩
 have b1:(k == 115)=false:=by simpa using h1
 have e:hasMd k=false:=by unfold hasMd;exact decide_eq_false (by simp only[List.mem_cons,List.not_mem_nil,or_false];omega)
 rw[e]
 clear e
 go_enter Tryz.func81,Tryz.ntmps81
 go_wp2_with fail
 go_ret
 exact⟨rfl,rfl⟩
theorem hasRef_any (k:Int)(w:World):Calls Tryz.prog 80 #[.int .u8 k] w fun e w'=>e=.returned (.bool (hasRf k))/\w'=w:=by
 by_cases h0:k=102
 ·subst h0
  go_enter Tryz.func80,Tryz.ntmps80
  go_wp2_with fail
  go_ret
  exact⟨rfl,rfl⟩
 have b0:(k == 102)=false:=by simpa using h0
 by_cases h1:k=104
 ·subst h1
  go_enter Tryz.func80,Tryz.ntmps80
  go_wp2_with fail
  go_ret
  exact⟨rfl,rfl⟩
 have b1:(k == 104)=false:=by simpa using h1
 have e:hasRf k=false:=by unfold hasRf;exact decide_eq_false (by simp only[List.mem_cons,List.not_mem_nil,or_false];omega)
 rw[e]
 clear e
 go_enter Tryz.func80,Tryz.ntmps80
 go_wp2_with fail
 go_ret
 exact⟨rfl,rfl⟩
theorem ends1 (x:Int)(p:Nat)(fa:Option Addr)(fn fc:Nat)(w:World)(h:w.cell? ⟨p,0,none⟩=some (.slice fa fn fc)):Calls Tryz.prog 79 #[.int .i64 x,.pointer (some ⟨p,0,none⟩)] w fun e w'=>e=.returned (.bool (decide (x<0∨(fn:Int)<=x)))/\w'=w:=by
 obtain⟨db,hdb⟩:∃d,d=decide (x<0∨(fn:Int)<=x):=⟨_,rfl⟩
 rw[<-hdb]
 have HD:=hid' hdb
 clear hdb
 by_cases h1:x<0
 ·have HE:=hid' (HD.out.trans (decide_eq_true (.inl h1)))
  go_enter Tryz.func79,Tryz.ntmps79
  go_wp2_with fail
  go_ret
  exact⟨by rw[HE.out];rfl,rfl⟩
 by_cases h2:(fn:Int)<=x
 ·have HE:=hid' (HD.out.trans (decide_eq_true (.inr h2)))
  go_enter Tryz.func79,Tryz.ntmps79
  go_wp2_with fail
  go_ret
  exact⟨by rw[HE.out];rfl,rfl⟩
 ·have HE:=hid' (HD.out.trans (decide_eq_false (by rintro (e|e);exact h1 e;exact h2 e)))
  go_enter Tryz.func79,Tryz.ntmps79
  go_wp2_with fail
  go_ret
  exact⟨by rw[HE.out];rfl,rfl⟩
def endsB (fn:Nat)(k:Int)(l:List Int):Bool:=decide (endsN k≠0/\(l.length:Int)=endsN k) && !(l.any fun x=>decide (x<0∨(fn:Int)<=x))
theorem rightEnds_any (fa:Option Addr)(fn fc:Nat)(da:Option Addr)(dn dc:Nat)(fm fx fk:Int)(k:Int)(s:ByteArray)(an:Option Addr)(nn cn:Nat)(rf vm vx wk:Int)(av:Option Addr)(nv cv:Nat)(ai:Option Addr)(ni ci:Nat)(ms:ByteArray)(mk:Int)(a1:Option Addr)(n1 c1:Nat)(a2:Option Addr)(n2 c2:Nat)(l:List Int)(w:World)(h:ISl w (.slice an nn cn) l)(hb:nn<=9223372036854775807) :
  Calls Tryz.prog 57 #[.agg #[.slice fa fn fc,.slice da dn dc,.int .i64 fm,.int .i64 fx,.int .i64 fk],.agg #[.int .u8 k,.string s,.slice an nn cn,.int .i64 rf,.int .i64 vm,.int .i64 vx,.int .i64 wk,.slice av nv cv,.slice ai ni ci,.string ms,.int .u8 mk,.slice a1 n1 c1,.slice a2 n2 c2]] w fun e w'=>Kept w w'/\e=.returned (.bool (endsB fn k l)):=by
 have hn:=h.len
 have HB:=hid' (show endsB fn k l=(decide (endsN k≠0/\(nn:Int)=endsN k) && !(l.any fun x=>decide (x<0∨(fn:Int)<=x))) by rw[hn];rfl)
 generalize endsB fn k l=eb at HB ⊢
 have HL:=hid' h
 have hE:=fun V=>endsOf_any k V
 generalize endsN k=ez at HB hE
 have kA:=((Kept.refl w).alloc (.cells #[.slice fa fn fc,.slice da dn dc,.int .i64 fm,.int .i64 fx,.int .i64 fk] 27)).alloc (.cells #[.int .u8 k,.string s,.slice an nn cn,.int .i64 rf,.int .i64 vm,.int .i64 vx,.int .i64 wk,.slice av nv cv,.slice ai ni ci,.string ms,.int .u8 mk,.slice a1 n1 c1,.slice a2 n2 c2] 48)
 have hA:=(RowL.alloc 27 w [.slice fa fn fc,.slice da dn dc,.int .i64 fm,.int .i64 fx,.int .i64 fk]).kept ((Kept.refl _).alloc (.cells #[.int .u8 k,.string s,.slice an nn cn,.int .i64 rf,.int .i64 vm,.int .i64 vx,.int .i64 wk,.slice av nv cv,.slice ai ni ci,.string ms,.int .u8 mk,.slice a1 n1 c1,.slice a2 n2 c2] 48))
 have hB:=RowL.alloc 48 (w.alloc (.cells #[.slice fa fn fc,.slice da dn dc,.int .i64 fm,.int .i64 fx,.int .i64 fk] 27)) [.int .u8 k,.string s,.slice an nn cn,.int .i64 rf,.int .i64 vm,.int .i64 vx,.int .i64 wk,.slice av nv cv,.slice ai ni ci,.string ms,.int .u8 mk,.slice a1 n1 c1,.slice a2 n2 c2]
 rw[World.size_alloc]at hB
 clear h hn
 go_enter Tryz.func57,Tryz.ntmps57
 go_upto_region 1 with fail
 generalize (w.alloc (.cells #[.slice fa fn fc,.slice da dn dc,.int .i64 fm,.int .i64 fx,.int .i64 fk] 27)).alloc (.cells #[.int .u8 k,.string s,.slice an nn cn,.int .i64 rf,.int .i64 vm,.int .i64 vx,.int .i64 wk,.slice av nv cv,.slice ai ni ci,.string ms,.int .u8 mk,.slice a1 n1 c1,.slice a2 n2 c2] 48)=W at kA hA hB ⊢
 obtain⟨q,hq⟩:∃q,q=w.heap.size+1:=⟨_,rfl⟩
 rw[<-hq]at hB ⊢
 obtain⟨p,hp⟩:∃q,q=w.heap.size:=⟨_,rfl⟩
 rw[<-hp]at hA ⊢
 have HK:=hid' (And.intro kA hA)
 have f0:=hB.cell 0 (.int .u8 k)
 have f2:=hB.cell 2 (.slice an nn cn)
 clear hq hp kA hA hB
 go_wp2_with fail
 refine(hE _).mono ?_
 rintro e w1 ⟨rfl,rfl⟩
 by_cases h0:ez=0
 ·subst h0
  have HEb:=hid' (show eb=false by rw[HB.out,decide_eq_false (fun h=>h.1 rfl)];rfl)
  go_wp2_with fail
  go_ret
  exact⟨HK.out.1,by rw[HEb.out];rfl⟩
 have b0:(ez == 0)=false:=by simpa using h0
 by_cases h1:(nn:Int)=ez
 ·have b1:((nn:Int) != ez)=false:=by rw[h1];simp
  have HB:=hid' (show eb=!(l.any fun x=>decide (x<0∨(fn:Int)<=x)) by rw[HB.out,decide_eq_true ⟨h0,h1⟩];rfl)
  have hc:=con_ints 79 #[.pointer (some ⟨p,0,none⟩)] (fun x=>decide (x<0∨(fn:Int)<=x)) (fun _ _=>by simp) an nn cn l w1 (fun V x hV=>(ends1 x p fa fn fc V ((HK.out.2.kept hV).cell 0 (.slice fa fn fc))).mono fun e w' h=>⟨h.1,by rw[h.2];exact hV⟩) (HL.out.kept HK.out.1) hb
  generalize (l.any fun x=>decide (x<0∨(fn:Int)<=x))=bb at hc HB
  clear h0 h1
  go_wp2_with fail
  refine hc.mono ?_
  rintro e w2 ⟨hk,rfl⟩
  have HK2:=hid' (HK.out.1.trans hk)
  clear hk
  go_wp2_with fail
  go_ret
  exact⟨HK2.out,by rw[HB.out];rfl⟩
 ·have b1:((nn:Int) != ez)=true:=by simpa using h1
  have HEb:=hid' (show eb=false by rw[HB.out,decide_eq_false (fun h=>h1 h.2)];rfl)
  clear h0 h1
  go_wp2_with fail
  go_ret
  exact⟨HK.out.1,by rw[HEb.out];rfl⟩
def refB (ds:List DE)(k rf:Int):Bool:=if hasRf k=false then decide (rf=0) else decide (0<=rf/\rf<(ds.length:Int))&&((ds.map DE.kind).getD rf.toNat 0 == 118)
theorem rightRef_any (fa:Option Addr)(fn fc:Nat)(da:Option Addr)(dn dc:Nat)(fm fx fk:Int)(k:Int)(s:ByteArray)(an:Option Addr)(nn cn:Nat)(rf vm vx wk:Int)(av:Option Addr)(nv cv:Nat)(ai:Option Addr)(ni ci:Nat)(ms:ByteArray)(mk:Int)(a1:Option Addr)(n1 c1:Nat)(a2:Option Addr)(n2 c2:Nat)(ds:List DE)(w:World)(h:DsR w (.slice da dn dc) ds) :
  Calls Tryz.prog 58 #[.agg #[.slice fa fn fc,.slice da dn dc,.int .i64 fm,.int .i64 fx,.int .i64 fk],.agg #[.int .u8 k,.string s,.slice an nn cn,.int .i64 rf,.int .i64 vm,.int .i64 vx,.int .i64 wk,.slice av nv cv,.slice ai ni ci,.string ms,.int .u8 mk,.slice a1 n1 c1,.slice a2 n2 c2]] w fun e w'=>Kept w w'/\e=.returned (.bool (refB ds k rf)):=by
 have hn:dn=ds.length:=by have:=h.1.len;rw[List.length_map]at this;exact this
 have HB:=hid' (show refB ds k rf=(if hasRf k=false then decide (rf=0) else decide (0<=rf/\rf<(dn:Int))&&((ds.map DE.kind).getD rf.toNat 0 == 118)) by rw[hn];rfl)
 generalize refB ds k rf=rb at HB ⊢
 have HL:=hid' h
 have HN:=hid' hn
 have hE:=fun V=>hasRef_any k V
 generalize hasRf k=ez at HB hE
 have kA:=((Kept.refl w).alloc (.cells #[.slice fa fn fc,.slice da dn dc,.int .i64 fm,.int .i64 fx,.int .i64 fk] 27)).alloc (.cells #[.int .u8 k,.string s,.slice an nn cn,.int .i64 rf,.int .i64 vm,.int .i64 vx,.int .i64 wk,.slice av nv cv,.slice ai ni ci,.string ms,.int .u8 mk,.slice a1 n1 c1,.slice a2 n2 c2] 48)
 have hA:=(RowL.alloc 27 w [.slice fa fn fc,.slice da dn dc,.int .i64 fm,.int .i64 fx,.int .i64 fk]).kept ((Kept.refl _).alloc (.cells #[.int .u8 k,.string s,.slice an nn cn,.int .i64 rf,.int .i64 vm,.int .i64 vx,.int .i64 wk,.slice av nv cv,.slice ai ni ci,.string ms,.int .u8 mk,.slice a1 n1 c1,.slice a2 n2 c2] 48))
 have hB:=RowL.alloc 48 (w.alloc (.cells #[.slice fa fn fc,.slice da dn dc,.int .i64 fm,.int .i64 fx,.int .i64 fk] 27)) [.int .u8 k,.string s,.slice an nn cn,.int .i64 rf,.int .i64 vm,.int .i64 vx,.int .i64 wk,.slice av nv cv,.slice ai ni ci,.string ms,.int .u8 mk,.slice a1 n1 c1,.slice a2 n2 c2]
 rw[World.size_alloc]at hB
 clear h hn
 go_enter Tryz.func58,Tryz.ntmps58
 go_upto_region 1 with fail
 generalize (w.alloc (.cells #[.slice fa fn fc,.slice da dn dc,.int .i64 fm,.int .i64 fx,.int .i64 fk] 27)).alloc (.cells #[.int .u8 k,.string s,.slice an nn cn,.int .i64 rf,.int .i64 vm,.int .i64 vx,.int .i64 wk,.slice av nv cv,.slice ai ni ci,.string ms,.int .u8 mk,.slice a1 n1 c1,.slice a2 n2 c2] 48)=W at kA hA hB ⊢
 obtain⟨q,hq⟩:∃q,q=w.heap.size+1:=⟨_,rfl⟩
 rw[<-hq]at hB ⊢
 obtain⟨p,hp⟩:∃q,q=w.heap.size:=⟨_,rfl⟩
 rw[<-hp]at hA ⊢
 have HK:=hid' kA
 have f0:=hB.cell 0 (.int .u8 k)
 have f3:=hB.cell 3 (.int .i64 rf)
 have g1:=hA.cell 1 (.slice da dn dc)
 clear hq hp kA hA hB
 go_wp2_with fail
 refine(hE _).mono ?_
 rintro e w1 ⟨rfl,rfl⟩
 cases ez
 ·have HB:=hid' (HB.out.trans (if_pos rfl))
  by_cases h0:rf=0
  ·have HEb:=hid' (show rb=true by rw[HB.out,decide_eq_true h0])
   subst h0
   go_wp2_with fail
   go_ret
   exact⟨HK.out,by rw[HEb.out];rfl⟩
  ·have HEb:=hid' (show rb=false by rw[HB.out,decide_eq_false h0])
   have b0:(rf == 0)=false:=by simpa using h0
   go_wp2_with fail
   go_ret
   exact⟨HK.out,by rw[HEb.out];rfl⟩
 have HB:=hid' (HB.out.trans (if_neg (by decide)))
 by_cases h0:0<=rf
 ·by_cases h1:rf<(dn:Int)
  ·obtain⟨i,rfl⟩:∃i:Nat,rf=(i:Int):=⟨rf.toNat,by omega⟩
   have hid:i<dn:=by omega
   have hiL:i<ds.length:=by have:=HN.out;omega
   obtain⟨ao',cap',hv,hx⟩:=HL.out.1.kept HK.out
   simp only[Value.slice.injEq]at hv
   obtain⟨rfl,hnn,rfl⟩:=hv
   obtain⟨b,off,rfl,hb,hc⟩:=hx (by omega)
   have d0:=hc i (by omega) 0 (by omega)
   rw[map_getD DE.cells ds i hiL]at d0
   simp only[DE.cells,List.getD_cons_zero]at d0
   rw[Nat.add_zero]at d0
   have hkk:(ds.map DE.kind).getD i 0=ds[i].kind:=by
    rw[List.getD_eq_getElem?_getD,List.getElem?_map,List.getElem?_eq_getElem hiL];rfl
   have HB:=hid' (show rb=(ds[i].kind == 118) by rw[HB.out,decide_eq_true ⟨h0,h1⟩,show ((i:Int)).toNat=i by omega,hkk];rfl)
   generalize ds[i].kind=dk at d0 HB
   clear hx hc hnn hb hkk
   cases hd:(dk == 118)
   ·have HEb:=hid' (HB.out.trans hd)
    go_wp2_with fail
    go_ret
    exact⟨HK.out,by rw[HEb.out];rfl⟩
   ·have HEb:=hid' (HB.out.trans hd)
    go_wp2_with fail
    go_ret
    exact⟨HK.out,by rw[HEb.out];rfl⟩
  ·have HEb:=hid' (show rb=false by rw[HB.out,decide_eq_false (fun h=>h1 h.2)];rfl)
   go_wp2_with fail
   go_ret
   exact⟨HK.out,by rw[HEb.out];rfl⟩
 ·have HEb:=hid' (show rb=false by rw[HB.out,decide_eq_false (fun h=>h0 h.1)];rfl)
  go_wp2_with fail
  go_ret
  exact⟨HK.out,by rw[HEb.out];rfl⟩
def strayB (k:Int)(ms:List UInt8)(mk:Int)(n1 n2:Nat):Bool:=!hasMd k&&(!(ms == [])||(!(mk == 0)||(decide (0<n1)||decide (0<n2))))
theorem stray_any (k:Int)(s:ByteArray)(an:Option Addr)(nn cn:Nat)(rf vm vx wk:Int)(av:Option Addr)(nv cv:Nat)(ai:Option Addr)(ni ci:Nat)(ms:ByteArray)(mk:Int)(a1:Option Addr)(n1 c1:Nat)(a2:Option Addr)(n2 c2:Nat)(w:World) :
  Calls Tryz.prog 59 #[.agg #[.int .u8 k,.string s,.slice an nn cn,.int .i64 rf,.int .i64 vm,.int .i64 vx,.int .i64 wk,.slice av nv cv,.slice ai ni ci,.string ms,.int .u8 mk,.slice a1 n1 c1,.slice a2 n2 c2]] w fun e w'=>Kept w w'/\e=.returned (.bool (strayB k ms.toList mk n1 n2)):=by
 have HB:=hid' (show strayB k ms.toList mk n1 n2=(!hasMd k&&(!(ms.toList == [])||(!(mk == 0)||(decide (0<n1)||decide (0<n2))))) from rfl)
 generalize strayB k ms.toList mk n1 n2=sb at HB ⊢
 have hE:=fun V=>hasModel_any k V
 generalize hasMd k=ez at HB hE
 have kA:=((Kept.refl w).alloc (.cells #[.int .u8 k,.string s,.slice an nn cn,.int .i64 rf,.int .i64 vm,.int .i64 vx,.int .i64 wk,.slice av nv cv,.slice ai ni ci,.string ms,.int .u8 mk,.slice a1 n1 c1,.slice a2 n2 c2] 48)).alloc (.cells #[.string ms,.int .u8 mk,.slice a1 n1 c1,.slice a2 n2 c2] 46)
 have hA:=(RowL.alloc 48 w [.int .u8 k,.string s,.slice an nn cn,.int .i64 rf,.int .i64 vm,.int .i64 vx,.int .i64 wk,.slice av nv cv,.slice ai ni ci,.string ms,.int .u8 mk,.slice a1 n1 c1,.slice a2 n2 c2]).kept ((Kept.refl _).alloc (.cells #[.string ms,.int .u8 mk,.slice a1 n1 c1,.slice a2 n2 c2] 46))
 have hB:=RowL.alloc 46 (w.alloc (.cells #[.int .u8 k,.string s,.slice an nn cn,.int .i64 rf,.int .i64 vm,.int .i64 vx,.int .i64 wk,.slice av nv cv,.slice ai ni ci,.string ms,.int .u8 mk,.slice a1 n1 c1,.slice a2 n2 c2] 48)) [.string ms,.int .u8 mk,.slice a1 n1 c1,.slice a2 n2 c2]
 rw[World.size_alloc]at hB
 go_enter Tryz.func59,Tryz.ntmps59
 go_upto_region 2 with fail
 generalize (w.alloc (.cells #[.int .u8 k,.string s,.slice an nn cn,.int .i64 rf,.int .i64 vm,.int .i64 vx,.int .i64 wk,.slice av nv cv,.slice ai ni ci,.string ms,.int .u8 mk,.slice a1 n1 c1,.slice a2 n2 c2] 48)).alloc (.cells #[.string ms,.int .u8 mk,.slice a1 n1 c1,.slice a2 n2 c2] 46)=W at kA hA hB ⊢
 obtain⟨q,hq⟩:∃q,q=w.heap.size+1:=⟨_,rfl⟩
 rw[<-hq]at hB ⊢
 obtain⟨p,hp⟩:∃q,q=w.heap.size:=⟨_,rfl⟩
 rw[<-hp]at hA ⊢
 have HK:=hid' kA
 have f0:=hA.cell 0 (.int .u8 k)
 have g0:=hB.cell 0 (.string ms)
 have g1:=hB.cell 1 (.int .u8 mk)
 have g2:=hB.cell 2 (.slice a1 n1 c1)
 have g3:=hB.cell 3 (.slice a2 n2 c2)
 clear hq hp kA hA hB
 go_wp2_with fail
 refine(hE _).mono ?_
 rintro e w1 ⟨rfl,rfl⟩
 cases ez
 rotate_left
 ·have HEb:=hid' (show sb=false from HB.out)
  go_wp2_with fail
  go_ret
  exact⟨HK.out,by rw[HEb.out];rfl⟩
 cases hm:(ms.toList == [])
 ·have hmn:(ms.toList != [])=true:=by rw[bne,hm];rfl
  have HEb:=hid' (show sb=true by rw[HB.out,hm];rfl)
  go_wp2_with fail
  go_ret
  exact⟨HK.out,by rw[HEb.out];rfl⟩
 have hmn:(ms.toList != [])=false:=by rw[bne,hm];rfl
 cases hk0:(mk == 0)
 ·have hkn:(mk != 0)=true:=by rw[bne,hk0];rfl
  have HEb:=hid' (show sb=true by rw[HB.out,hm,hk0];rfl)
  go_wp2_with fail
  go_ret
  exact⟨HK.out,by rw[HEb.out];rfl⟩
 have hkn:(mk != 0)=false:=by rw[bne,hk0];rfl
 by_cases h1:0<n1
 ·have h1i:(0:Int)<(n1:Int):=by omega
  have HEb:=hid' (show sb=true by rw[HB.out,hm,hk0,decide_eq_true h1];rfl)
  go_wp2_with fail
  go_ret
  exact⟨HK.out,by rw[HEb.out];rfl⟩
 have h1i:¬(0:Int)<(n1:Int):=by omega
 by_cases h2:0<n2
 ·have h2i:(0:Int)<(n2:Int):=by omega
  have HEb:=hid' (show sb=true by rw[HB.out,hm,hk0,decide_eq_false h1,decide_eq_true h2];rfl)
  go_wp2_with fail
  go_ret
  exact⟨HK.out,by rw[HEb.out];rfl⟩
 ·have h2i:¬(0:Int)<(n2:Int):=by omega
  have HEb:=hid' (show sb=false by rw[HB.out,hm,hk0,decide_eq_false h1,decide_eq_false h2];rfl)
  go_wp2_with fail
  go_ret
  exact⟨HK.out,by rw[HEb.out];rfl⟩
open Q (hid')
def SomeB (e:Ending):Prop:=∃r:Bool,e=.returned (.bool r)
theorem dev_cells {w:World}{da:Option Addr}{dn dc:Nat}{ds:List DE}(h:DsR w (.slice da dn dc) ds)(i:Nat)(hi:i<ds.length) :
  ∃(b off:Nat) (k:Int) (s:ByteArray) (an:Option Addr) (nn cn:Nat) (rf vm vx wk:Int) (av:Option Addr) (nv cv:Nat) (ai:Option Addr) (ni ci:Nat) (ms:ByteArray) (mk:Int) (a1:Option Addr) (n1 c1:Nat) (a2:Option Addr) (n2 c2:Nat),da=some ⟨b,off,none⟩/\∀V,Kept w V->V.cell? ⟨b,off+i*13,none⟩=some (.int .u8 k)/\V.cell? ⟨b,off+i*13+1,none⟩=some (.string s)/\V.cell? ⟨b,off+i*13+2,none⟩=some (.slice an nn cn)/\V.cell? ⟨b,off+i*13+3,none⟩=some (.int .i64 rf)/\V.cell? ⟨b,off+i*13+4,none⟩=some (.int .i64 vm)/\V.cell? ⟨b,off+i*13+5,none⟩=some (.int .i64 vx)/\V.cell? ⟨b,off+i*13+6,none⟩=some (.int .i64 wk)/\V.cell? ⟨b,off+i*13+7,none⟩=some (.slice av nv cv)/\V.cell? ⟨b,off+i*13+8,none⟩=some (.slice ai ni ci)/\V.cell? ⟨b,off+i*13+9,none⟩=some (.string ms)/\V.cell? ⟨b,off+i*13+10,none⟩=some (.int .u8 mk)/\V.cell? ⟨b,off+i*13+11,none⟩=some (.slice a1 n1 c1)/\V.cell? ⟨b,off+i*13+12,none⟩=some (.slice a2 n2 c2):=by
 have hxx:=map_getD DE.cells ds i hi
 obtain⟨ao',cap',hv,hx⟩:=h.1
 simp only[Value.slice.injEq]at hv
 obtain⟨rfl,hnn,rfl⟩:=hv
 rw[List.length_map]at hx
 obtain⟨b,off,rfl,hb',hc⟩:=hx (by omega)
 have hc':=fun j (hj:j<13)=>hc i hi j hj
 rw[hxx]at hc'
 clear hc hx hxx
 generalize ds[i]=Dv at hc'
 obtain⟨k,nm,nds,an,cn,rf,vm,vx,wk,wvl,av,cv,wsl,ai,ci,⟨mnm,mk,gsl,vsl⟩,a1,c1,a2,c2⟩:=Dv
 refine⟨b,off,k,X.bs nm,an,nds.length,cn,rf,vm,vx,wk,av,wvl.length,cv,ai,wsl.length,ci,X.bs mnm,mk,a1,gsl.length,c1,a2,vsl.length,c2,rfl,fun V K=>?_⟩
 have hk:∀j,j<13->V.cell? ⟨b,off+i*13+j,none⟩=_:=fun j hj=>(Below.cell K (p:=⟨b,off+i*13+j,none⟩) hb').trans (hc' j hj)
 exact⟨hk 0 (by omega),hk 1 (by omega),hk 2 (by omega),hk 3 (by omega),hk 4 (by omega),hk 5 (by omega),hk 6 (by omega),hk 7 (by omega),hk 8 (by omega),hk 9 (by omega),hk 10 (by omega),hk 11 (by omega),hk 12 (by omega)⟩
theorem bulky_any (fa:Option Addr)(fn fc:Nat)(da:Option Addr)(dn dc:Nat)(fm fx fk:Int)(ds:List DE)(w:World)(h:DsR w (.slice da dn dc) ds)(hdb:dn<=9223372036854775807) :
  Calls Tryz.prog 7 #[.agg #[.slice fa fn fc,.slice da dn dc,.int .i64 fm,.int .i64 fx,.int .i64 fk]] w fun e w'=>Kept w w'/\SomeB e:=by
 have hn:dn=ds.length:=by have:=h.1.len;rw[List.length_map]at this;exact this
 have HL:=hid' h
 have HN:=hid' hn
 clear h hn
 have kA:=(Kept.refl w).alloc (.cells #[.slice fa fn fc,.slice da dn dc,.int .i64 fm,.int .i64 fx,.int .i64 fk] 27)
 have hA:=RowL.alloc 27 w [.slice fa fn fc,.slice da dn dc,.int .i64 fm,.int .i64 fx,.int .i64 fk]
 go_enter Tryz.func7,Tryz.ntmps7
 go_upto_region 1 with fail
 generalize w.alloc (.cells #[.slice fa fn fc,.slice da dn dc,.int .i64 fm,.int .i64 fx,.int .i64 fk] 27)=W at kA hA ⊢
 obtain⟨p,hp⟩:∃q,q=w.heap.size:=⟨_,rfl⟩
 rw[<-hp]at hA ⊢
 have HK:=hid' kA
 have HF:=hid' hA
 have f0:=hA.cell 0 (.slice fa fn fc)
 clear kA hA hp
 go_wp2_with fail
 clear f0
 obtain⟨x0,hx0⟩:∃x:Int,x=(fn:Int):=⟨_,rfl⟩
 rw[<-hx0]
 clear hx0
 go_loopw [3,4] (fun v3 v4 wr=>∃(i:Nat) (x:Int),i<=dn/\v3=.int .i64 x/\v4=.int .i64 (i:Int)/\Hid (Kept w wr/\RowL 27 wr p [.slice fa fn fc,.slice da dn dc,.int .i64 fm,.int .i64 fx,.int .i64 fk])) (fun _ v4 _=>dn-(intOf v4).toNat)
 case atStart=>exact⟨0,x0,Nat.zero_le _,rfl,rfl,HK.out,HF.out⟩
 case round=>
  obtain⟨i,x,hil,rfl,rfl,H⟩:=hrel
  clear HK HF
  have f1:=H.out.2.cell 1 (.slice da dn dc)
  by_cases hit:i<dn
  ·have hii:(i:Int)<(dn:Int):=by omega
   have hi0:(0:Int)<=(i:Int):=by omega
   by_cases hx2:x<2000
   ·have hiL:i<ds.length:=by have:=HN.out;omega
    obtain⟨b,off,k,s,an,nn,cn,rf,vm,vx,wk,av,nv,cv,ai,ni,ci,ms,mk,a1,n1,c1,a2,n2,c2,rfl,hV⟩:=dev_cells HL.out i hiL
    obtain⟨e0,e1,e2,e3,e4,e5,e6,e7,e8,e9,e10,e11,e12⟩:=hV wr H.out.1
    clear hV
    have kD:=(Kept.refl wr).alloc (.cells #[.int .u8 k,.string s,.slice an nn cn,.int .i64 rf,.int .i64 vm,.int .i64 vx,.int .i64 wk,.slice av nv cv,.slice ai ni ci,.string ms,.int .u8 mk,.slice a1 n1 c1,.slice a2 n2 c2] 48)
    have hD:=RowL.alloc 48 wr [.int .u8 k,.string s,.slice an nn cn,.int .i64 rf,.int .i64 vm,.int .i64 vx,.int .i64 wk,.slice av nv cv,.slice ai ni ci,.string ms,.int .u8 mk,.slice a1 n1 c1,.slice a2 n2 c2]
    go_upto_region 6 with fail
    have HK:=hid' (H.out.1.trans kD)
    have HF:=hid' (H.out.2.kept kD)
    generalize wr.alloc (.cells #[.int .u8 k,.string s,.slice an nn cn,.int .i64 rf,.int .i64 vm,.int .i64 vx,.int .i64 wk,.slice av nv cv,.slice ai ni ci,.string ms,.int .u8 mk,.slice a1 n1 c1,.slice a2 n2 c2] 48)=W2 at kD hD HK HF ⊢
    obtain⟨q,hq⟩:∃q,q=wr.heap.size:=⟨_,rfl⟩
    rw[<-hq]at hD ⊢
    have g2:=hD.cell 2 (.slice an nn cn)
    have g7:=hD.cell 7 (.slice av nv cv)
    have g8:=hD.cell 8 (.slice ai ni ci)
    have g11:=hD.cell 11 (.slice a1 n1 c1)
    have g12:=hD.cell 12 (.slice a2 n2 c2)
    clear kD hD hq e0 e1 e2 e3 e4 e5 e6 e7 e8 e9 e10 e11 e12 H f1
    go_wp2_with fail
    go_roundw
    case rel=>exact⟨i+1,_,by omega,rfl,by go_num,HK.out,HF.out⟩
    case measure=>show dn-((i:Int)+1).toNat<dn-(i:Int).toNat;omega
   ·go_wp2_with fail
    go_ret
    exact⟨H.out.1,⟨_,rfl⟩⟩
  ·have hii:¬(i:Int)<(dn:Int):=by omega
   go_wp2_with fail
   go_ret
   exact⟨H.out.1,⟨_,rfl⟩⟩
end V
end Go.Proofs.YtdjhmgmjiglcbaaGreatDoor
