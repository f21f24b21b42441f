/- Lemmas. -/
import Derived.Test.YtdjhmgmjiglcbaaGreatDoorGax
import Derived.Test.YtdjhmgmjiglcbaaGreatDoorGaq
import Derived.Test.YtdjhmgmjiglcbaaGreatDoorGau
import Derived.Test.YtdjhmgmjiglcbaaGreatDoorGbb
import Derived.Test.YtdjhmgmjiglcbaaGreatDoorGaw
import Derived.Lib.OwnKind
import Derived.Test.YtdjhmgmjiglcbaaGreatDoorGap
import Derived.Test.YtdjhmgmjiglcbaaGreatDoorGav
import Derived.Test.YtdjhmgmjiglcbaaGreatDoorGag
import Derived.Test.YtdjhmgmjiglcbaaGreatDoorGaa
import Derived.Deep.DeepCutAuto
set_option maxRecDepth 100000
set_option maxHeartbeats 4000000
namespace Go.Proofs.YtdjhmgmjiglcbaaGreatDoor
open Go.RowKit
namespace V
open Q (hid' parseOf)
open X (bs OwnS RS strs)
structure Pt where
 nodes:List (List UInt8)
 name:List UInt8
 nums:List (Int×Int)
 steps:List Int
def Pt.zero:Pt:=⟨[],[],[],[]⟩
def nmStep (p:Pt)(c:UInt8)(x:List UInt8):Option Pt :=
 if c=110 then (if okName x=true then some { p with nodes:=p.nodes++[x] } else none)
 else if c=109 then (if okName x=true then some { p with name:=x } else none)
 else if c=118 then (if devB x=true/\x.getD 0 0=118 then some { p with name:=x } else none)
 else some p
def nuStep (p:Pt)(c:UInt8)(x:List UInt8):Except Int Pt :=
 if c=120 then (if (parseOf x).2.2=0 then .ok { p with nums:=p.nums++[((parseOf x).1,(parseOf x).2.1)] } else .error (parseOf x).2.2)
 else if c=115 then (if (stepT x).2=true then .ok { p with steps:=p.steps++[(stepT x).1] } else .error 3)
 else .ok p
def nmAll (p:Pt):List (UInt8×List UInt8)->Option Pt
 | []=>some p
 |z::t=>match nmStep p z.1 z.2 with
  |none=>none
  |some q=>nmAll q t
def nuAll (p:Pt):List (UInt8×List UInt8)->Except Int Pt
 | []=>.ok p
 |z::t=>match nuStep p z.1 z.2 with
  | .error e=>.error e
  | .ok q=>nuAll q t
def partsOf (ws:List (List UInt8))(sh:List UInt8):Except Int Pt :=
 if ws.length≠sh.length then .error 70 else
 match nmAll Pt.zero (sh.zip ws) with
 |none=>.error 71
 |some p=>nuAll p (sh.zip ws)
def ncs (l:List (Int×Int)):List Value:=l.flatMap fun p=>[.int .i64 p.1,.int .i64 p.2]
theorem ncs_len (l:List (Int×Int)):(ncs l).length=l.length*2:=by
 induction l with
 |nil=>rfl
 |cons p l ih=>show (_::_::ncs l).length=_;simp only[List.length_cons,ih];omega
theorem ncs_app (a b:List (Int×Int)):ncs (a++b)=ncs a++ncs b:=List.flatMap_append
theorem ncs_at (l:List (Int×Int)):∀j,j<l.length->(ncs l)[j*2]?=some (.int .i64 (l.getD j (0,0)).1)/\(ncs l)[j*2+1]?=some (.int .i64 (l.getD j (0,0)).2):=by
 induction l with
 |nil=>intro j h;simp at h
 |cons p l ih=>
  intro j h
  cases j with
  |zero=>exact⟨rfl,rfl⟩
  |succ j=>
   have:=ih j (by simpa using h)
   rw[show (j+1)*2=j*2+1+1 by omega]
   exact this
theorem ncs_one (l:List (Int×Int)):∀u∈ncs l,u.oneCell'=true:=by
 intro u hu
 obtain⟨p,_,h⟩:=List.mem_flatMap.1 hu
 simp at h
 rcases h with rfl|rfl <;> rfl
def OwnN (B:Nat)(w:World)(v:Value)(l:List (Int×Int)):Prop:=w.ownsRow B 25 2 v l.length (ncs l)
def OwnI (B:Nat)(w:World)(v:Value)(l:List Int):Prop:=w.ownsRow B 3 1 v l.length (l.map (Value.int .i64))
theorem info_num:(Tryz.prog.info? 25).map (fun i=>(i.zero,i.size,i.bytes))=some (some (.agg #[.int .i64 0,.int .i64 0]),2,16):=by kernel_rfl
theorem und_nums:Tryz.prog.underlying 42=some (.slice 25):=by kernel_rfl
theorem info_i64:(Tryz.prog.info? 3).map (fun i=>(i.zero,i.size,i.bytes))=some (some (.int .i64 0),1,8):=by kernel_rfl
theorem und_ints:Tryz.prog.underlying 31=some (.slice 3):=by kernel_rfl
theorem own_kept {w w':World}{B:Nat}{e:TypeId}{sz n:Nat}{v:Value}{xs:List Value}(h:w.ownsRow B e sz v n xs)(k:∀b,v.ownBlock=some b->w'.heap[b]?=w.heap[b]?):w'.ownsRow B e sz v n xs:=by
 obtain⟨h1,h2|⟨g,cap,cur,rfl,h3,h4,h5⟩⟩:=h
 ·exact⟨h1,.inl h2⟩
 ·exact⟨h1,.inr ⟨g,cap,cur,rfl,h3,(k g rfl).trans h4,h5⟩⟩
theorem own_apart {w:World}{B B':Nat}{e e':TypeId}{sz n sz' n':Nat}{v v':Value}{xs xs':List Value}(h:w.ownsRow B e sz v n xs)(h':w.ownsRow B' e' sz' v' n' xs')(hne:e≠e'):∀b,v.ownBlock=some b->v'.ownBlock≠some b:=by
 intro b hb hb'
 obtain⟨c,f,h1⟩:=Lib.ownsRow_kind h b hb
 obtain⟨c',f',h2⟩:=Lib.ownsRow_kind h' b hb'
 rw[h1]at h2
 simp at h2
 exact hne h2.2.1
theorem own_row {w:World}{B:Nat}{e t:TypeId}{sz n p m:Nat}{v:Value}{xs:List Value}{f:Nat->Value}(h:w.ownsRow B e sz v n xs)(h':w.rowIs p t m f)(hne:e≠t):v.ownBlock≠some p:=by
 intro hb
 obtain⟨c,f,h1⟩:=Lib.ownsRow_kind h p hb
 obtain⟨c',h2,_⟩:=h'
 rw[h1]at h2
 simp at h2
 exact hne h2.2.1
theorem own_mono {w:World}{B B':Nat}{e:TypeId}{sz n:Nat}{v:Value}{xs:List Value}(h:w.ownsRow B e sz v n xs)(hB:B'<=B):w.ownsRow B' e sz v n xs:=by
 obtain⟨h1,h2|⟨g,cap,cur,h2,h3,h4⟩⟩:=h
 ·exact⟨h1,.inl h2⟩
 ·exact⟨h1,.inr ⟨g,cap,cur,h2,by omega,h4⟩⟩
theorem own_shape {w:World}{B:Nat}{e:TypeId}{sz n:Nat}{v:Value}{xs:List Value}(h:w.ownsRow B e sz v n xs):∃ao cap,v=.slice ao n cap:=by
 obtain⟨_,⟨h2,h3⟩|⟨g,cap,cur,h2,_⟩⟩:=h
 ·exact⟨none,0,by rw[h2,h3]⟩
 ·exact⟨_,_,h2⟩
theorem own_cell {w:World}{B:Nat}{e:TypeId}{sz n:Nat}{v:Value}{xs:List Value}(h:w.ownsRow B e sz v n xs)(h0:0<n):∃g cap,v=.slice (some ⟨g,0,none⟩) n cap/\B<=g/\g<w.heap.size/\n<=cap/\(∀j u,xs[j]?=some u->w.cell? ⟨g,j,none⟩=some u)/\∀j,w.frozen? ⟨g,j,none⟩=false:=by
 obtain⟨h1,⟨_,h3⟩|⟨g,cap,cur,h2,hB,hg,hn,_,hs,ht⟩⟩:=h
 ·omega
 ·have hlt:g<w.heap.size:=by
   rcases Nat.lt_or_ge g w.heap.size with hlt|hge
   ·exact hlt
   ·rw[Array.getElem?_eq_none hge]at hg;cases hg
  refine⟨g,cap,h2,hB,hlt,hn,fun j u hj=>?_,fun j=>by simp[World.frozen?,hg]⟩
  have hl:=(List.getElem?_eq_some_iff.1 hj).1
  rw[<-ht,List.getElem?_take_of_lt (by omega),Array.getElem?_toList]at hj
  simp[World.cell?,hg,hj]
theorem OwnN.nsl {B:Nat}{w:World}{v:Value}{l:List (Int×Int)}(h:OwnN B w v l):NSl w v l:=by
 by_cases h0:0<l.length
 ·obtain⟨g,cap,rfl,_,hg,_,hc,_⟩:=own_cell h h0
  refine⟨_,_,rfl,fun _=>⟨g,0,rfl,hg,fun j hj=>?_⟩⟩
  rw[Nat.zero_add]
  exact⟨hc _ _ (ncs_at l j hj).1,hc _ _ (ncs_at l j hj).2⟩
 ·obtain⟨ao,cap,rfl⟩:=own_shape h
  exact⟨_,_,rfl,fun h=>absurd h h0⟩
theorem OwnI.isl {B:Nat}{w:World}{v:Value}{l:List Int}(h:OwnI B w v l):ISl w v l:=by
 by_cases h0:0<l.length
 ·obtain⟨g,cap,rfl,_,hg,_,hc,_⟩:=own_cell h h0
  refine⟨_,_,rfl,fun _=>⟨g,0,rfl,hg,fun j hj=>?_⟩⟩
  rw[Nat.zero_add]
  exact hc _ _ (by simp[hj])
 ·obtain⟨ao,cap,rfl⟩:=own_shape h
  exact⟨_,_,rfl,fun h=>absurd h h0⟩
structure PtAt (B:Nat) (w:World) (pb:Nat) (p:Pt) (nv xv sv:Value):Prop where
 le:B<=pb
 row:Row4 177 w pb nv (.string (bs p.name)) xv sv
 nodes:OwnS B w nv p.nodes
 nums:OwnN B w xv p.nums
 steps:OwnI B w sv p.steps
def PtIs (B:Nat)(w:World)(pb:Nat)(p:Pt):Prop:=∃nv xv sv,PtAt B w pb p nv xv sv
theorem PtAt.blocks {B:Nat}{w w':World}{pb:Nat}{p:Pt}{nv xv sv:Value}(h:PtAt B w pb p nv xv sv)(k:∀b,b<w.heap.size->w'.heap[b]?=w.heap[b]?):PtAt B w' pb p nv xv sv :=
 ⟨h.le,World.rowIs.of_block h.row (k pb h.row.lt),own_kept h.nodes (fun b hb=>k b (h.nodes.lt b hb).2),own_kept h.nums (fun b hb=>k b (h.nums.lt b hb).2),own_kept h.steps (fun b hb=>k b (h.steps.lt b hb).2)⟩
theorem PtAt.kept {B:Nat}{w w':World}{pb:Nat}{p:Pt}{nv xv sv:Value}(h:PtAt B w pb p nv xv sv)(k:Kept w w'):PtAt B w' pb p nv xv sv:=h.blocks (fun b hb=>k.block b hb)
theorem PtIs.kept {B:Nat}{w w':World}{pb:Nat}{p:Pt}(h:PtIs B w pb p)(k:Kept w w'):PtIs B w' pb p:=by
 obtain⟨nv,xv,sv,h⟩:=h
 exact⟨nv,xv,sv,h.kept k⟩
theorem PtAt.setName {B:Nat}{w:World}{pb:Nat}{p:Pt}{nv xv sv:Value}(h:PtAt B w pb p nv xv sv)(x:List UInt8):PtAt B (w.setCell ⟨pb,1,none⟩ (.string (bs x))) pb { p with name:=x } nv xv sv:=by
 have o:∀b,b≠pb->(w.setCell ⟨pb,1,none⟩ (.string (bs x))).heap[b]?=w.heap[b]?:=fun b hb=>Deep.blk_setCell_other _ _ _ _ hb
 refine⟨h.le,(World.rowIs.set h.row 1 _).congr (fun i hi=>?_),own_kept h.nodes fun b hb=>o b ?_,own_kept h.nums fun b hb=>o b ?_,own_kept h.steps fun b hb=>o b ?_⟩
 ·match i,hi with
  |0,_=>rfl
  |1,_=>rfl
  |2,_=>rfl
  |3,_=>rfl
 ·intro e;subst e;exact own_row h.nodes h.row (by decide) hb
 ·intro e;subst e;exact own_row h.nums h.row (by decide) hb
 ·intro e;subst e;exact own_row h.steps h.row (by decide) hb
theorem PtAt.addNode {B:Nat}{w w':World}{pb g n cap:Nat}{p:Pt}{nv xv sv:Value}{x:List UInt8}(h:PtAt B w pb p nv xv sv)
  (hrow:w'.ownsRow B 9 1 (.slice (some ⟨g,0,none⟩) n cap) n (strs p.nodes++[.string (bs x)])) (hn:n=p.nodes.length+1) (hg:w.grownBy w' nv.ownBlock) (hgg:nv.ownBlock=some g∨g=w.heap.size) :
  PtAt B (w'.setCell ⟨pb,0,none⟩ (.slice (some ⟨g,0,none⟩) n cap)) pb { p with nodes:=p.nodes++[x] } (.slice (some ⟨g,0,none⟩) n cap) xv sv:=by
 have hpb:nv.ownBlock≠some pb:=own_row h.nodes h.row (by decide)
 have hgp:g≠pb:=by
  rcases hgg with h1|h1
  ·intro e;exact hpb (by rw[h1,e])
  ·have:=h.row.lt;omega
 have o:∀b,b≠pb->(w'.setCell ⟨pb,0,none⟩ (.slice (some ⟨g,0,none⟩) n cap)).heap[b]?=w'.heap[b]?:=fun b hb=>Deep.blk_setCell_other _ _ _ _ hb
 have hr':Row4 177 w' pb nv (.string (bs p.name)) xv sv:=World.rowIs.of_block h.row (hg.block pb h.row.lt (fun e=>hpb e.symm))
 refine⟨h.le,(World.rowIs.set hr' 0 _).congr (fun i hi=>?_),?_,own_kept h.nums fun b hb=>(o b ?_).trans (hg.block b (h.nums.lt b hb).2 fun e=>?_),own_kept h.steps fun b hb=>(o b ?_).trans (hg.block b (h.steps.lt b hb).2 fun e=>?_)⟩
 ·match i,hi with
  |0,_=>rfl
  |1,_=>rfl
  |2,_=>rfl
  |3,_=>rfl
 ·unfold OwnS
  rw[X.strs_app,List.length_append,List.length_singleton,<-hn]
  refine own_kept hrow fun b hb=>o b ?_
  have:g=b:=by simpa[Value.ownBlock]using hb
  omega
 ·intro e;subst e;exact own_row h.nums h.row (by decide) hb
 ·exact own_apart h.nums h.nodes (by decide) b hb e.symm
 ·intro e;subst e;exact own_row h.steps h.row (by decide) hb
 ·exact own_apart h.steps h.nodes (by decide) b hb e.symm
theorem PtAt.addNum {B:Nat}{w w':World}{pb g n cap:Nat}{p:Pt}{nv xv sv:Value}{x:Int×Int}(h:PtAt B w pb p nv xv sv)
  (hrow:w'.ownsRow B 25 2 (.slice (some ⟨g,0,none⟩) n cap) n (ncs p.nums++[.int .i64 x.1,.int .i64 x.2])) (hn:n=p.nums.length+1) (hg:w.grownBy w' xv.ownBlock) (hgg:xv.ownBlock=some g∨g=w.heap.size) :
  PtAt B (w'.setCell ⟨pb,2,none⟩ (.slice (some ⟨g,0,none⟩) n cap)) pb { p with nums:=p.nums++[x] } nv (.slice (some ⟨g,0,none⟩) n cap) sv:=by
 have hpb:xv.ownBlock≠some pb:=own_row h.nums h.row (by decide)
 have hgp:g≠pb:=by
  rcases hgg with h1|h1
  ·intro e;exact hpb (by rw[h1,e])
  ·have:=h.row.lt;omega
 have o:∀b,b≠pb->(w'.setCell ⟨pb,2,none⟩ (.slice (some ⟨g,0,none⟩) n cap)).heap[b]?=w'.heap[b]?:=fun b hb=>Deep.blk_setCell_other _ _ _ _ hb
 have hr':Row4 177 w' pb nv (.string (bs p.name)) xv sv:=World.rowIs.of_block h.row (hg.block pb h.row.lt (fun e=>hpb e.symm))
 refine⟨h.le,(World.rowIs.set hr' 2 _).congr (fun i hi=>?_),own_kept h.nodes fun b hb=>(o b ?_).trans (hg.block b (h.nodes.lt b hb).2 fun e=>?_),?_,own_kept h.steps fun b hb=>(o b ?_).trans (hg.block b (h.steps.lt b hb).2 fun e=>?_)⟩
 ·match i,hi with
  |0,_=>rfl
  |1,_=>rfl
  |2,_=>rfl
  |3,_=>rfl
 ·intro e;subst e;exact own_row h.nodes h.row (by decide) hb
 ·exact own_apart h.nodes h.nums (by decide) b hb e.symm
 ·unfold OwnN
  rw[ncs_app,List.length_append,List.length_singleton,<-hn]
  refine own_kept hrow fun b hb=>o b ?_
  have:g=b:=by simpa[Value.ownBlock]using hb
  omega
 ·intro e;subst e;exact own_row h.steps h.row (by decide) hb
 ·exact own_apart h.steps h.nums (by decide) b hb e.symm
theorem PtAt.addStep {B:Nat}{w w':World}{pb g n cap:Nat}{p:Pt}{nv xv sv:Value}{x:Int}(h:PtAt B w pb p nv xv sv)
  (hrow:w'.ownsRow B 3 1 (.slice (some ⟨g,0,none⟩) n cap) n (p.steps.map (Value.int .i64)++[.int .i64 x])) (hn:n=p.steps.length+1) (hg:w.grownBy w' sv.ownBlock) (hgg:sv.ownBlock=some g∨g=w.heap.size) :
  PtAt B (w'.setCell ⟨pb,3,none⟩ (.slice (some ⟨g,0,none⟩) n cap)) pb { p with steps:=p.steps++[x] } nv xv (.slice (some ⟨g,0,none⟩) n cap):=by
 have hpb:sv.ownBlock≠some pb:=own_row h.steps h.row (by decide)
 have hgp:g≠pb:=by
  rcases hgg with h1|h1
  ·intro e;exact hpb (by rw[h1,e])
  ·have:=h.row.lt;omega
 have o:∀b,b≠pb->(w'.setCell ⟨pb,3,none⟩ (.slice (some ⟨g,0,none⟩) n cap)).heap[b]?=w'.heap[b]?:=fun b hb=>Deep.blk_setCell_other _ _ _ _ hb
 have hr':Row4 177 w' pb nv (.string (bs p.name)) xv sv:=World.rowIs.of_block h.row (hg.block pb h.row.lt (fun e=>hpb e.symm))
 refine⟨h.le,(World.rowIs.set hr' 3 _).congr (fun i hi=>?_),own_kept h.nodes fun b hb=>(o b ?_).trans (hg.block b (h.nodes.lt b hb).2 fun e=>?_),own_kept h.nums fun b hb=>(o b ?_).trans (hg.block b (h.nums.lt b hb).2 fun e=>?_),?_⟩
 ·match i,hi with
  |0,_=>rfl
  |1,_=>rfl
  |2,_=>rfl
  |3,_=>rfl
 ·intro e;subst e;exact own_row h.nodes h.row (by decide) hb
 ·exact own_apart h.nodes h.steps (by decide) b hb e.symm
 ·intro e;subst e;exact own_row h.nums h.row (by decide) hb
 ·exact own_apart h.nums h.steps (by decide) b hb e.symm
 ·unfold OwnI
  rw[List.map_append,List.length_append,List.length_singleton,<-hn]
  refine own_kept hrow fun b hb=>o b ?_
  have:g=b:=by simpa[Value.ownBlock]using hb
  omega
open Q (hid' parseOf)
theorem ib_mem' (c:UInt8):∀l:List UInt8,0<=Lib.indexByte l c↔c∈l
 | []=>by simp[Lib.indexByte]
 |b::l=>by
  have ih:=ib_mem' c l
  have hg:=Lib.indexByte_ge l c
  unfold Lib.indexByte
  by_cases h:b=c
  ·subst h;simp
  ·have h':¬c=b:=fun e=>h e.symm
   simp only[beq_iff_eq,h,if_false,List.mem_cons,h',false_or,<-ih]
   split <;> omega
def waveC (c:UInt8):Bool:=decide (c∈([118,105]:List UInt8))
def valueC (c:UInt8):Bool:=decide (c∈([114,99,108,101,103,102,104,116]:List UInt8))
def zeroC (c:UInt8):Bool:=decide (c∈([114,99,108]:List UInt8))
def refC (c:UInt8):Bool:=decide (c∈([102,104,100,115,120]:List UInt8))
def wshape:List (List UInt8)->List UInt8
 | []=>[120]
 |x::t=>if x=[100,99] then [46,120] else if x=[112,117,108,115,101] then [46,120,120,115,115,115,115,115] else if x=[112,119,108] then 46::Lib.repeatL [115,120] (min (max (t.length/2) 1) 16) else if x=[116,97,98,108,101] then 46::Lib.repeatL [120] (min (max t.length 1) 16) else [120]
def cshape (c:UInt8)(ws:List (List UInt8)):List UInt8 :=
 if c=118∨c=105 then [46,110,110]++wshape (ws.drop 3)
 else if c=101∨c=103∨c=116 then [46,110,110,110,110,120]
 else if c=102∨c=104 then [46,110,110,118,120]
 else if c=100 then [46,110,110,109]
 else if c=115 then [46,110,110,110,110,109]
 else if c=120 then 46::(Lib.repeatL [110] (min (max (ws.length-2) 1) 8)++[109])
 else [46,110,110,120]
def mshape (ws:List (List UInt8)):List UInt8 :=
 if ws.getD 2 []=[100] then [46,109,46,120]++Lib.repeatL [120,120] (min ((ws.length-4)/2) 3)
 else if ws.getD 2 []=[115] then [46,109,46,120,120,120]
 else []
theorem rep_len (l:List UInt8)(k:Nat):(Lib.repeatL l k).length=k*l.length:=by
 induction k with
 |zero=>simp[Lib.repeatL]
 |succ k ih=>show (l++Lib.repeatL l k).length=_;rw[List.length_append,ih,Nat.add_mul];omega
theorem rep_one (c:UInt8)(k:Nat):Lib.repeatL [c] k=List.replicate k c:=by
 induction k with
 |zero=>rfl
 |succ k ih=>show [c]++Lib.repeatL [c] k=_;rw[ih];rfl
theorem wshape_len (ws:List (List UInt8)):1<=(wshape ws).length/\(wshape ws).length<=33:=by
 cases ws with
 |nil=>decide
 |cons x t=>
  rw[wshape]
  split
  ·decide
  split
  ·decide
  split
  ·rw[List.length_cons,rep_len];simp only[List.length_cons,List.length_nil];omega
  split
  ·rw[List.length_cons,rep_len];simp only[List.length_cons,List.length_nil];omega
  ·decide
theorem cshape_len (c:UInt8)(ws:List (List UInt8)):(cshape c ws).length<=40:=by
 have:=wshape_len (ws.drop 3)
 unfold cshape
 split
 ·rw[List.length_append];simp only[List.length_cons,List.length_nil];omega
 split
 ·decide
 split
 ·decide
 split
 ·decide
 split
 ·decide
 split
 ·rw[List.length_cons,List.length_append,rep_len];simp only[List.length_cons,List.length_nil];omega
 ·decide
structure Cd where
 name:List UInt8
 nodes:List (List UInt8)
 ref:List UInt8
 val:Int×Int
 kind:Int
 vals:List (Int×Int)
 steps:List Int
deriving DecidableEq
def Cd.zero:Cd:=⟨[],[],[],(0,0),0,[],[]⟩
def headC (ws:List (List UInt8)):UInt8:=(ws.getD 0 []).getD 0 0
def cardS (ws:List (List UInt8))(p:Pt):Cd :=
 if waveC (headC ws)=true then ⟨ws.getD 0 [],p.nodes,p.name,(0,0),wkindL (ws.getD 3 []),p.nums,p.steps⟩
 else if valueC (headC ws)=true then ⟨ws.getD 0 [],p.nodes,p.name,p.nums.getD 0 (0,0),0,[],[]⟩
 else ⟨ws.getD 0 [],p.nodes,p.name,(0,0),0,[],[]⟩
def endC (c:Cd):Except Int Cd :=
 if zeroC (c.name.getD 0 0)=true/\c.val=(0,0) then .error 11
 else if waveC (c.name.getD 0 0)=true/\okW c.kind c.vals c.steps=false then .error 40
 else .ok c
def readC (ws:List (List UInt8)):Except Int Cd :=
 if ws=[]∨devB (ws.getD 0 [])=false then .error 70 else
 match partsOf ws (cshape (headC ws) ws) with
 | .error e=>.error e
 | .ok p=>endC (cardS ws p)
theorem nmStep_keep {p q:Pt}{c:UInt8}{x:List UInt8}(h:nmStep p c x=some q):q.nums=p.nums/\q.steps=p.steps/\q.nodes.length<=p.nodes.length+1:=by
 unfold nmStep at h
 split at h
 ·split at h
  ·cases h;simp
  ·cases h
 split at h
 ·split at h
  ·cases h;simp
  ·cases h
 split at h
 ·split at h
  ·cases h;simp
  ·cases h
 ·cases h;simp
theorem nmAll_keep:∀(zs:List (UInt8×List UInt8)) (p q:Pt),nmAll p zs=some q->q.nums=p.nums/\q.steps=p.steps/\q.nodes.length<=p.nodes.length+zs.length
 | [],p,q,h=>by cases h;simp
 |z::t,p,q,h=>by
  unfold nmAll at h
  cases hn:nmStep p z.1 z.2 with
  |none=>rw[hn]at h;cases h
  |some r=>
   rw[hn]at h
   have h1:=nmStep_keep hn
   have h2:=nmAll_keep t r q h
   refine⟨h2.1.trans h1.1,h2.2.1.trans h1.2.1,?_⟩
   rw[List.length_cons]
   omega
theorem nuStep_keep {p q:Pt}{c:UInt8}{x:List UInt8}(h:nuStep p c x=.ok q):q.nodes=p.nodes/\q.name=p.name/\q.nums.length=p.nums.length+(if c=120 then 1 else 0)/\q.steps.length=p.steps.length+(if c=115 then 1 else 0):=by
 unfold nuStep at h
 split at h
 ·rename_i hc
  split at h
  ·cases h
   subst hc
   simp
  ·cases h
 split at h
 ·rename_i h1 h2
  split at h
  ·cases h
   subst h2
   simp
  ·cases h
 ·rename_i h1 h2
  cases h
  simp[h1,h2]
theorem nuAll_keep:∀(zs:List (UInt8×List UInt8)) (p q:Pt),nuAll p zs=.ok q->q.nodes=p.nodes/\q.name=p.name/\q.nums.length=p.nums.length+(zs.map Prod.fst).count 120/\q.steps.length=p.steps.length+(zs.map Prod.fst).count 115
 | [],p,q,h=>by cases h;simp
 |z::t,p,q,h=>by
  unfold nuAll at h
  cases hn:nuStep p z.1 z.2 with
  |error e=>rw[hn]at h;cases h
  |ok r=>
   rw[hn]at h
   have h1:=nuStep_keep hn
   have h2:=nuAll_keep t r q h
   refine⟨h2.1.trans h1.1,h2.2.1.trans h1.2.1,?_,?_⟩
   ·rw[h2.2.2.1,h1.2.2.1,List.map_cons,List.count_cons]
    simp only[beq_iff_eq]
    omega
   ·rw[h2.2.2.2,h1.2.2.2,List.map_cons,List.count_cons]
    simp only[beq_iff_eq]
    omega
theorem zip_fst {sh:List UInt8}{ws:List (List UInt8)}(h:ws.length=sh.length):(sh.zip ws).map Prod.fst=sh:=List.map_fst_zip (by omega)
theorem partsOf_ok {ws:List (List UInt8)}{sh:List UInt8}{p:Pt}(h:partsOf ws sh=.ok p):ws.length=sh.length/\p.nums.length=sh.count 120/\p.steps.length=sh.count 115/\p.nodes.length<=ws.length:=by
 unfold partsOf at h
 split at h
 ·cases h
 ·rename_i hl
  have hl:ws.length=sh.length:=by omega
  cases hn:nmAll Pt.zero (sh.zip ws) with
  |none=>rw[hn]at h;cases h
  |some r=>
   rw[hn]at h
   have h1:=nmAll_keep _ _ _ hn
   have h2:=nuAll_keep _ _ _ h
   rw[zip_fst hl,h1.1,h1.2.1]at h2
   have h3:=h1.2.2
   rw[List.length_zip]at h3
   have e1:Pt.zero.nodes.length=0:=rfl
   have e2:Pt.zero.nums.length=0:=rfl
   have e3:Pt.zero.steps.length=0:=rfl
   refine⟨hl,by omega,by omega,?_⟩
   rw[h2.1]
   omega
theorem zip_drop {sh:List UInt8}{ws:List (List UInt8)}(hl:ws.length=sh.length){k:Nat}(hk:k<ws.length):(sh.zip ws).drop k=(sh.getD k 0,ws.getD k [])::(sh.zip ws).drop (k+1):=by
 have h1:k<(sh.zip ws).length:=by rw[List.length_zip];omega
 rw[List.drop_eq_getElem_cons h1]
 congr 1
 rw[List.getElem_zip,List.getD_eq_getElem?_getD,List.getD_eq_getElem?_getD,List.getElem?_eq_getElem (by omega),List.getElem?_eq_getElem hk]
 rfl
open Q (parseOf okN textOf)
def gvAll (k:Nat)(g v:List (Int×Int)):List (Int×Int)->List (Int×Int)×List (Int×Int)
 | []=>(g,v)
 |x::t=>if k%2=0 then gvAll (k+1) (g++[x]) v t else gvAll (k+1) g (v++[x]) t
structure Md where
 name:List UInt8
 kind:Int
 gs:List (Int×Int)
 vs:List (Int×Int)
deriving DecidableEq
def Md.zero:Md:=⟨[],0,[],[]⟩
def modelS (k:Int)(p:Pt):Md:=⟨p.name,k,(gvAll 0 [] [] p.nums).1,(gvAll 0 [] [] p.nums).2⟩
def readM (ws:List (List UInt8)):Except Int Md :=
 if ws.length<4∨ws.getD 0 []≠[46,109,111,100,101,108] then .error 70 else
 match partsOf ws (mshape ws) with
 | .error e=>.error e
 | .ok p=>if okM (modelS (((ws.getD 2 []).getD 0 0).toNat:Int) p).name (modelS (((ws.getD 2 []).getD 0 0).toNat:Int) p).kind (modelS (((ws.getD 2 []).getD 0 0).toNat:Int) p).gs (modelS (((ws.getD 2 []).getD 0 0).toNat:Int) p).vs=true then .ok (modelS (((ws.getD 2 []).getD 0 0).toNat:Int) p) else .error 50
def tx (p:Int×Int):List UInt8:=if okN p.1 p.2=true then textOf p.1 p.2 else []
def obo (vs:List (Int×Int))(ss:List Int):List (List UInt8):=vs.map tx++ss.map Lib.itoa
def pwlW:List (Int×Int)->List Int->List (List UInt8)
 |v::vs,s::ss=>Lib.itoa s::tx v::pwlW vs ss
 |_,_=>[]
def wwords (k:Int)(vs:List (Int×Int))(ss:List Int):List (List UInt8) :=
 if okW k vs ss=false then [] else
 if k=2 then [112,117,108,115,101]::obo vs ss
 else if k=3 then [112,119,108]::pwlW vs ss
 else if k=4 then [116,97,98,108,101]::obo vs ss
 else [100,99]::obo vs ss
def cwords (c:Cd):List (List UInt8) :=
 [c.name]++c.nodes++(if refC (c.name.getD 0 0)=true then [c.ref] else [])++(if valueC (c.name.getD 0 0)=true then [tx c.val] else [])++(if waveC (c.name.getD 0 0)=true then wwords c.kind c.vals c.steps else [])
def writeC (c:Cd):Option (List (List UInt8)) :=
 if devB c.name=true then (match readC (cwords c) with
  | .ok d=>if d=c then some (cwords c) else none
  | .error _=>none) else none
open Q (hid')
open X (bs RS bs_list bs_size)
theorem again_any (s:ByteArray)(lo hi room:Int)(n:Nat)(w:World)(hs:1<=s.size)(hs2:s.size<=2)(hn:n<=16)(h2:min (max (room.tdiv (s.size:Int)) lo) hi=(n:Int))(hr:-2<=room)(hr2:room<=9223372036854775807) :
  Calls Tryz.prog 191 #[.string s,.int .i64 lo,.int .i64 hi,.int .i64 room] w fun e w'=>Kept w w'/\e=.returned (.string (bs (Lib.repeatL s.data.toList n))):=by
 have hrep:=Tryz.strings_Repeat s n w (by omega) (by have:=Nat.mul_le_mul hs2 hn;omega)
 go_enter Tryz.func191,Tryz.ntmps191
 go_wp2_with fail
 refine hrep.mono ?_
 rintro e w1 ⟨rfl,hk⟩
 have HK:=hid' hk
 clear hk hrep
 go_wp2_with fail
 go_ret
 exact⟨HK.out,rfl⟩
theorem ag1 (m:Nat):min (max ((m:Int).tdiv 1) 1) 16=((min (max m 1) 16:Nat):Int):=by
 rw[Int.tdiv_one];omega
theorem ag2 (m:Nat):min (max ((m:Int).tdiv 2) 1) 16=((min (max (m/2) 1) 16:Nat):Int):=by
 rw[Int.tdiv_eq_ediv_of_nonneg (by omega)];omega
theorem bs_app (a b:List UInt8):bs a++bs b=bs (a++b):=by
 apply ByteArray.ext
 simp[ByteArray.data_append,bs]
theorem rep_size (l:List UInt8)(k:Nat):(bs (Lib.repeatL l k)).size=k*l.length:=by rw[bs_size,rep_len]
theorem waveShape_any (ao:Option Addr)(n c:Nat)(ws:List (List UInt8))(w:World)(h:RS w (.slice ao n c) ws)(hn2:n<=9223372036854775807) :
  Calls Tryz.prog 190 #[.slice ao n c] w fun e w'=>Kept w w'/\e=.returned (.string (bs (wshape ws))):=by
 obtain⟨ao',c',hv,hx⟩:=h
 simp only[Value.slice.injEq]at hv
 obtain⟨rfl,hn,rfl⟩:=hv
 cases ws with
 |nil=>
  subst hn
  clear hx
  go_enter Tryz.func190,Tryz.ntmps190
  go_wp2_with fail
  go_ret
  exact⟨Kept.refl _,rfl⟩
 |cons x t=>
  obtain⟨b,off,rfl,hb,hcl⟩:=hx (by simp)
  have c0:=hcl 0 (by simp)
  rw[List.getD_cons_zero]at c0
  have hx1:(bs x).toList=x:=by rw[ByteArray.toList_eq,bs_list]
  generalize bs x=s at c0 hx1
  obtain⟨m,hm⟩:∃m,m=t.length:=⟨_,rfl⟩
  obtain rfl:n=m+1:=by rw[hn,hm];rfl
  have hz:¬((m:Int)+1)=0:=by omega
  have hz':(((m:Int)+1) == 0)=false:=by simpa using hz
  have hp:(0:Int)<(m:Int)+1:=by omega
  rw[Nat.add_zero]at c0
  clear hx hcl hn hb
  obtain⟨r,hr⟩:∃r,r=wshape (x::t):=⟨_,rfl⟩
  rw[<-hr]
  rw[wshape,<-hm]at hr
  clear hm
  have hsb:IntKind.i64.wrap ((m:Int)+1-1)=(m:Int):=by rw[IntKind.wrap_i64];omega
  by_cases h1:x=[100,99]
  ·subst h1
   have b1:(s.toList == [100,99])=true:=by rw[hx1];rfl
   have HR:=hid' (hr.trans (if_pos rfl))
   clear hr hx1
   go_enter Tryz.func190,Tryz.ntmps190
   go_wp2_with fail
   go_ret
   exact⟨Kept.refl _,by rw[HR.out];rfl⟩
  have b1:(s.toList == [100,99])=false:=by rw[hx1];simpa using h1
  rw[if_neg h1]at hr
  by_cases h2:x=[112,117,108,115,101]
  ·subst h2
   have b2:(s.toList == [112,117,108,115,101])=true:=by rw[hx1];rfl
   have HR:=hid' (hr.trans (if_pos rfl))
   clear hr hx1
   go_enter Tryz.func190,Tryz.ntmps190
   go_wp2_with fail
   go_ret
   exact⟨Kept.refl _,by rw[HR.out];rfl⟩
  have b2:(s.toList == [112,117,108,115,101])=false:=by rw[hx1];simpa using h2
  rw[if_neg h2]at hr
  by_cases h3:x=[112,119,108]
  ·subst h3
   have b3:(s.toList == [112,119,108])=true:=by rw[hx1];rfl
   have HR:=hid' (hr.trans (if_pos rfl))
   clear hr hx1
   have hag:=fun V=>again_any ⟨#[115,120]⟩ 1 16 (m:Int) (min (max (m/2) 1) 16) V (by decide) (by decide) (by omega) (ag2 m) (by omega) (by omega)
   go_enter Tryz.func190,Tryz.ntmps190
   go_wp2_with fail
   refine(hag _).mono ?_
   rintro e w1 ⟨hk,rfl⟩
   have hsz:=rep_size [115,120] (min (max (m/2) 1) 16)
   have HK:=hid' hk
   have HB:=hid' (bs_app [46] (Lib.repeatL [115,120] (min (max (m/2) 1) 16)))
   generalize bs (Lib.repeatL [115,120] (min (max (m/2) 1) 16))=rs at hsz HB ⊢
   have hlim:¬9223372036854775807<1+rs.size:=by rw[hsz];simp only[List.length_cons,List.length_nil];omega
   clear hag hk hsz
   go_wp2_with fail
   go_ret
   exact⟨HK.out,by rw[HR.out,show (46::Lib.repeatL [115,120] (min (max (m/2) 1) 16):List UInt8)=[46]++Lib.repeatL [115,120] (min (max (m/2) 1) 16) from rfl,<-HB.out];rfl⟩
  have b3:(s.toList == [112,119,108])=false:=by rw[hx1];simpa using h3
  rw[if_neg h3]at hr
  by_cases h4:x=[116,97,98,108,101]
  ·subst h4
   have b4:(s.toList == [116,97,98,108,101])=true:=by rw[hx1];rfl
   have HR:=hid' (hr.trans (if_pos rfl))
   clear hr hx1
   have hag:=fun V=>again_any ⟨#[120]⟩ 1 16 (m:Int) (min (max m 1) 16) V (by decide) (by decide) (by omega) (ag1 m) (by omega) (by omega)
   go_enter Tryz.func190,Tryz.ntmps190
   go_wp2_with fail
   refine(hag _).mono ?_
   rintro e w1 ⟨hk,rfl⟩
   have hsz:=rep_size [120] (min (max m 1) 16)
   have HK:=hid' hk
   have HB:=hid' (bs_app [46] (Lib.repeatL [120] (min (max m 1) 16)))
   generalize bs (Lib.repeatL [120] (min (max m 1) 16))=rs at hsz HB ⊢
   have hlim:¬9223372036854775807<1+rs.size:=by rw[hsz];simp only[List.length_cons,List.length_nil];omega
   clear hag hk hsz
   go_wp2_with fail
   go_ret
   exact⟨HK.out,by rw[HR.out,show (46::Lib.repeatL [120] (min (max m 1) 16):List UInt8)=[46]++Lib.repeatL [120] (min (max m 1) 16) from rfl,<-HB.out];rfl⟩
  have b4:(s.toList == [116,97,98,108,101])=false:=by rw[hx1];simpa using h4
  rw[if_neg h4]at hr
  have HR:=hid' hr
  clear hr hx1
  go_enter Tryz.func190,Tryz.ntmps190
  go_wp2_with fail
  go_ret
  exact⟨Kept.refl _,by rw[HR.out];rfl⟩
theorem head_bs (l:List UInt8)(h:0<(bs l).size):(bs l)[0]=l.getD 0 0:=by
 cases l with
 |nil=>simp[bs_size]at h
 |cons a l=>rfl
theorem ag3 (n:Nat):min (max (((n:Int)-2).tdiv 1) 1) 8=((min (max (n-2) 1) 8:Nat):Int):=by
 rw[Int.tdiv_one];omega
theorem rs_none {w:World}{ws:List (List UInt8)}(ao:Option Addr)(c:Nat)(h:ws.length=0):RS w (.slice ao 0 c) ws:=⟨ao,c,by rw[h],fun h0=>absurd h0 (by omega)⟩
theorem RS.drop {w:World}{ao:Option Addr}{n c:Nat}{ws:List (List UInt8)}(h:RS w (.slice ao n c) ws)(k:Nat)(hk:k<=n)(ao':Option Addr)(c':Nat)(ha:∀b off,ao=some ⟨b,off,none⟩->k<n->ao'=some ⟨b,off+k,none⟩):RS w (.slice ao' (n-k) c') (ws.drop k):=by
 obtain⟨ao0,c0,hv,hx⟩:=h
 simp only[Value.slice.injEq]at hv
 obtain⟨rfl,hn,rfl⟩:=hv
 refine⟨ao',c',by rw[List.length_drop,hn],fun h0=>?_⟩
 rw[List.length_drop]at h0
 obtain⟨b,off,e,hb,hcl⟩:=hx (by omega)
 refine⟨b,off+k,ha b off e (by omega),hb,fun j hj=>?_⟩
 rw[List.length_drop]at hj
 have:=hcl (k+j) (by omega)
 rw[show off+k+j=off+(k+j) by omega,this]
 simp[List.getElem?_drop]
theorem cardShape_any (ao:Option Addr)(n c:Nat)(ws:List (List UInt8))(w:World)(h:RS w (.slice ao n c) ws)(hn1:1<=n)(hc2:n<=c)(hn2:c<=9223372036854775807)(hh:0<(ws.getD 0 []).length) :
  Calls Tryz.prog 160 #[.slice ao n c] w fun e w'=>Kept w w'/\e=.returned (.string (bs (cshape (headC ws) ws))):=by
 have HS:=hid' h
 obtain⟨ao',c',hv,hx⟩:=h
 simp only[Value.slice.injEq]at hv
 obtain⟨rfl,hn,rfl⟩:=hv
 obtain⟨b,off,rfl,hb,hcl⟩:=hx (by omega)
 have c0:=hcl 0 (by omega)
 rw[Nat.add_zero]at c0
 obtain⟨q,hq⟩:∃q,q=headC ws:=⟨_,rfl⟩
 rw[<-hq]
 have hs0:0<(bs (ws.getD 0 [])).size:=by rw[bs_size];exact hh
 have hqs:(bs (ws.getD 0 []))[0]=q:=by
  rw[hq]
  exact head_bs _ hs0
 generalize bs (ws.getD 0 [])=s at c0 hs0 hqs
 have hs0':(0:Int)<(s.size:Int):=by omega
 have hnp:(0:Int)<(n:Int):=by omega
 obtain⟨z,hz⟩:∃z,z=(s[0].toNat:Int):=⟨_,rfl⟩
 have hzq:z=(q.toNat:Int):=by rw[hz,hqs]
 have eqz:∀k:UInt8,(q=k)↔z=(k.toNat:Int):=fun k=>by
  rw[hzq]
  refine⟨fun e=>by rw[e],fun e=>UInt8.toNat_inj.1 (by omega)⟩
 have HC:=hid' (show cshape q ws=if z=118∨z=105 then [46,110,110]++wshape (ws.drop 3) else if z=101∨z=103∨z=116 then [46,110,110,110,110,120] else if z=102∨z=104 then [46,110,110,118,120] else if z=100 then [46,110,110,109] else if z=115 then [46,110,110,110,110,109] else if z=120 then 46::(Lib.repeatL [110] (min (max (n-2) 1) 8)++[109]) else [46,110,110,120] by
  unfold cshape
  rw[hn]
  simp only[eqz]
  rfl)
 generalize cshape q ws=r at HC ⊢
 have HLEN:=hid' hn
 clear hx hcl hn hb hq hqs hzq eqz hh
 by_cases h118:z=118
 ·have en:s[0].toNat=118:=by omega
  have eb:((s[0].toNat:Int) == 118)=true:=by rw[en];rfl
  rw[h118]at HC
  clear hz h118
  have HR:Hid (r=[46,110,110]++wshape (ws.drop 3)):=HC.out.trans (if_pos (by decide))
  by_cases hl3:3<=n
  ·have m3:min 3 (n:Int)=3:=by omega
   have l3:(3:Int)<=(n:Int):=by omega
   have l4:(3:Int)<=(c:Int):=by omega
   go_enter Tryz.func160,Tryz.ntmps160
   go_wp2_with fail
   all_goals
    refine(waveShape_any _ _ _ (ws.drop 3) _ (RS.drop HS.out 3 (by omega) _ _ (fun b' off' e hlt=>by first|(simp at e;obtain⟨rfl,rfl⟩:=e;rfl)|(exfalso;omega))) (by omega)).mono ?_
    rintro e w1 ⟨hk,rfl⟩
    have hsz:=(wshape_len (ws.drop 3)).2
    rw[<-bs_size]at hsz
    have HK:=hid' hk
    have HB:=hid' (bs_app [46,110,110] (wshape (ws.drop 3)))
    generalize bs (wshape (ws.drop 3))=rs at hsz HB ⊢
    have hlim:¬9223372036854775807<3+rs.size:=by omega
    clear hk hsz
    go_wp2_with fail
    go_ret
    exact⟨HK.out,by rw[HR.out,<-HB.out];rfl⟩
  ·have m3:min 3 (n:Int)=(n:Int):=by omega
   have l3:¬(3:Int)<=(n:Int):=by omega
   have l4:(n:Int)<=(c:Int):=by omega
   go_enter Tryz.func160,Tryz.ntmps160
   go_wp2_with fail
   all_goals
    refine(waveShape_any _ _ _ (ws.drop 3) _ (rs_none _ _ (by rw[List.length_drop];have:=HLEN.out;omega)) (by omega)).mono ?_
    rintro e w1 ⟨hk,rfl⟩
    have hsz:=(wshape_len (ws.drop 3)).2
    rw[<-bs_size]at hsz
    have HK:=hid' hk
    have HB:=hid' (bs_app [46,110,110] (wshape (ws.drop 3)))
    generalize bs (wshape (ws.drop 3))=rs at hsz HB ⊢
    have hlim:¬9223372036854775807<3+rs.size:=by omega
    clear hk hsz
    go_wp2_with fail
    go_ret
    exact⟨HK.out,by rw[HR.out,<-HB.out];rfl⟩
 have e118:¬(s[0].toNat:Int)=118:=by omega
 have f118:((s[0].toNat:Int) == 118)=false:=by simpa using e118
 have g118:¬s[0].toNat=118:=by omega
 by_cases h105:z=105
 ·have en:s[0].toNat=105:=by omega
  have eb:((s[0].toNat:Int) == 105)=true:=by rw[en];rfl
  rw[h105]at HC
  clear hz h105
  have HR:Hid (r=[46,110,110]++wshape (ws.drop 3)):=HC.out.trans (if_pos (by decide))
  by_cases hl3:3<=n
  ·have m3:min 3 (n:Int)=3:=by omega
   have l3:(3:Int)<=(n:Int):=by omega
   have l4:(3:Int)<=(c:Int):=by omega
   go_enter Tryz.func160,Tryz.ntmps160
   go_wp2_with fail
   all_goals
    refine(waveShape_any _ _ _ (ws.drop 3) _ (RS.drop HS.out 3 (by omega) _ _ (fun b' off' e hlt=>by first|(simp at e;obtain⟨rfl,rfl⟩:=e;rfl)|(exfalso;omega))) (by omega)).mono ?_
    rintro e w1 ⟨hk,rfl⟩
    have hsz:=(wshape_len (ws.drop 3)).2
    rw[<-bs_size]at hsz
    have HK:=hid' hk
    have HB:=hid' (bs_app [46,110,110] (wshape (ws.drop 3)))
    generalize bs (wshape (ws.drop 3))=rs at hsz HB ⊢
    have hlim:¬9223372036854775807<3+rs.size:=by omega
    clear hk hsz
    go_wp2_with fail
    go_ret
    exact⟨HK.out,by rw[HR.out,<-HB.out];rfl⟩
  ·have m3:min 3 (n:Int)=(n:Int):=by omega
   have l3:¬(3:Int)<=(n:Int):=by omega
   have l4:(n:Int)<=(c:Int):=by omega
   go_enter Tryz.func160,Tryz.ntmps160
   go_wp2_with fail
   all_goals
    refine(waveShape_any _ _ _ (ws.drop 3) _ (rs_none _ _ (by rw[List.length_drop];have:=HLEN.out;omega)) (by omega)).mono ?_
    rintro e w1 ⟨hk,rfl⟩
    have hsz:=(wshape_len (ws.drop 3)).2
    rw[<-bs_size]at hsz
    have HK:=hid' hk
    have HB:=hid' (bs_app [46,110,110] (wshape (ws.drop 3)))
    generalize bs (wshape (ws.drop 3))=rs at hsz HB ⊢
    have hlim:¬9223372036854775807<3+rs.size:=by omega
    clear hk hsz
    go_wp2_with fail
    go_ret
    exact⟨HK.out,by rw[HR.out,<-HB.out];rfl⟩
 have e105:¬(s[0].toNat:Int)=105:=by omega
 have f105:((s[0].toNat:Int) == 105)=false:=by simpa using e105
 have g105:¬s[0].toNat=105:=by omega
 by_cases h101:z=101
 ·have en:s[0].toNat=101:=by omega
  have eb:((s[0].toNat:Int) == 101)=true:=by rw[en];rfl
  rw[h101]at HC
  clear hz h101
  have HR:=hid' (show r=[46,110,110,110,110,120] by rw[HC.out];rfl)
  go_enter Tryz.func160,Tryz.ntmps160
  go_wp2_with fail
  go_ret
  exact⟨Kept.refl _,by rw[HR.out];rfl⟩
 have e101:¬(s[0].toNat:Int)=101:=by omega
 have f101:((s[0].toNat:Int) == 101)=false:=by simpa using e101
 have g101:¬s[0].toNat=101:=by omega
 by_cases h103:z=103
 ·have en:s[0].toNat=103:=by omega
  have eb:((s[0].toNat:Int) == 103)=true:=by rw[en];rfl
  rw[h103]at HC
  clear hz h103
  have HR:=hid' (show r=[46,110,110,110,110,120] by rw[HC.out];rfl)
  go_enter Tryz.func160,Tryz.ntmps160
  go_wp2_with fail
  go_ret
  exact⟨Kept.refl _,by rw[HR.out];rfl⟩
 have e103:¬(s[0].toNat:Int)=103:=by omega
 have f103:((s[0].toNat:Int) == 103)=false:=by simpa using e103
 have g103:¬s[0].toNat=103:=by omega
 by_cases h116:z=116
 ·have en:s[0].toNat=116:=by omega
  have eb:((s[0].toNat:Int) == 116)=true:=by rw[en];rfl
  rw[h116]at HC
  clear hz h116
  have HR:=hid' (show r=[46,110,110,110,110,120] by rw[HC.out];rfl)
  go_enter Tryz.func160,Tryz.ntmps160
  go_wp2_with fail
  go_ret
  exact⟨Kept.refl _,by rw[HR.out];rfl⟩
 have e116:¬(s[0].toNat:Int)=116:=by omega
 have f116:((s[0].toNat:Int) == 116)=false:=by simpa using e116
 have g116:¬s[0].toNat=116:=by omega
 by_cases h102:z=102
 ·have en:s[0].toNat=102:=by omega
  have eb:((s[0].toNat:Int) == 102)=true:=by rw[en];rfl
  rw[h102]at HC
  clear hz h102
  have HR:=hid' (show r=[46,110,110,118,120] by rw[HC.out];rfl)
  go_enter Tryz.func160,Tryz.ntmps160
  go_wp2_with fail
  go_ret
  exact⟨Kept.refl _,by rw[HR.out];rfl⟩
 have e102:¬(s[0].toNat:Int)=102:=by omega
 have f102:((s[0].toNat:Int) == 102)=false:=by simpa using e102
 have g102:¬s[0].toNat=102:=by omega
 by_cases h104:z=104
 ·have en:s[0].toNat=104:=by omega
  have eb:((s[0].toNat:Int) == 104)=true:=by rw[en];rfl
  rw[h104]at HC
  clear hz h104
  have HR:=hid' (show r=[46,110,110,118,120] by rw[HC.out];rfl)
  go_enter Tryz.func160,Tryz.ntmps160
  go_wp2_with fail
  go_ret
  exact⟨Kept.refl _,by rw[HR.out];rfl⟩
 have e104:¬(s[0].toNat:Int)=104:=by omega
 have f104:((s[0].toNat:Int) == 104)=false:=by simpa using e104
 have g104:¬s[0].toNat=104:=by omega
 by_cases h100:z=100
 ·have en:s[0].toNat=100:=by omega
  have eb:((s[0].toNat:Int) == 100)=true:=by rw[en];rfl
  rw[h100]at HC
  clear hz h100
  have HR:=hid' (show r=[46,110,110,109] by rw[HC.out];rfl)
  go_enter Tryz.func160,Tryz.ntmps160
  go_wp2_with fail
  go_ret
  exact⟨Kept.refl _,by rw[HR.out];rfl⟩
 have e100:¬(s[0].toNat:Int)=100:=by omega
 have f100:((s[0].toNat:Int) == 100)=false:=by simpa using e100
 have g100:¬s[0].toNat=100:=by omega
 by_cases h115:z=115
 ·have en:s[0].toNat=115:=by omega
  have eb:((s[0].toNat:Int) == 115)=true:=by rw[en];rfl
  rw[h115]at HC
  clear hz h115
  have HR:=hid' (show r=[46,110,110,110,110,109] by rw[HC.out];rfl)
  go_enter Tryz.func160,Tryz.ntmps160
  go_wp2_with fail
  go_ret
  exact⟨Kept.refl _,by rw[HR.out];rfl⟩
 have e115:¬(s[0].toNat:Int)=115:=by omega
 have f115:((s[0].toNat:Int) == 115)=false:=by simpa using e115
 have g115:¬s[0].toNat=115:=by omega
 by_cases h120:z=120
 ·have en:s[0].toNat=120:=by omega
  have eb:((s[0].toNat:Int) == 120)=true:=by rw[en];rfl
  rw[h120]at HC
  clear hz h120
  have HR:=hid' (show r=46::(Lib.repeatL [110] (min (max (n-2) 1) 8)++[109]) by rw[HC.out];rfl)
  have hsb:IntKind.i64.wrap ((n:Int)-2)=(n:Int)-2:=by rw[IntKind.wrap_i64];omega
  have hag:=fun V=>again_any ⟨#[110]⟩ 1 8 ((n:Int)-2) (min (max (n-2) 1) 8) V (by decide) (by decide) (by omega) (ag3 n) (by omega) (by omega)
  go_enter Tryz.func160,Tryz.ntmps160
  go_wp2_with fail
  refine(hag _).mono ?_
  rintro e w1 ⟨hk,rfl⟩
  have hsz:=rep_size [110] (min (max (n-2) 1) 8)
  have HK:=hid' hk
  have HB:=hid' (bs_app [46] (Lib.repeatL [110] (min (max (n-2) 1) 8)))
  have HB2:=hid' (bs_app ([46]++Lib.repeatL [110] (min (max (n-2) 1) 8)) [109])
  generalize bs (Lib.repeatL [110] (min (max (n-2) 1) 8))=rs at hsz HB ⊢
  have hlim:¬9223372036854775807<1+rs.size:=by rw[hsz];simp only[List.length_cons,List.length_nil];omega
  have hlim2:¬9223372036854775807<1+rs.size+1:=by rw[hsz];simp only[List.length_cons,List.length_nil];omega
  clear hag hk hsz
  go_wp2_with fail
  go_ret
  exact⟨HK.out,by rw[HR.out,show (46::(Lib.repeatL [110] (min (max (n-2) 1) 8)++[109]):List UInt8)=([46]++Lib.repeatL [110] (min (max (n-2) 1) 8))++[109] from rfl,<-HB2.out,<-HB.out];rfl⟩
 have e120:¬(s[0].toNat:Int)=120:=by omega
 have f120:((s[0].toNat:Int) == 120)=false:=by simpa using e120
 have g120:¬s[0].toNat=120:=by omega
 have HR:=hid' (show r=[46,110,110,120] by rw[HC.out,if_neg (by omega),if_neg (by omega),if_neg (by omega),if_neg (by omega),if_neg (by omega),if_neg (by omega)])
 clear hz
 go_enter Tryz.func160,Tryz.ntmps160
 go_wp2_with fail
 go_ret
 exact⟨Kept.refl _,by rw[HR.out];rfl⟩
open Q (hid' parseOf)
open X (bs OwnS RS strs zk zr zl zd region_z)
def NmIs (B:Nat)(w:World)(pb:Nat)(e:Ending):Option Pt->Prop
 |none=>e=.returned (.bool false)
 |some q=>e=.returned (.bool true)/\PtIs B w pb q
theorem dev_pos {s:ByteArray}(h:devB s.data.toList=true):0<s.size:=by
 unfold devB okName at h
 have h2:=(Bool.and_eq_true _ _ ▸ (Bool.and_eq_true _ _ ▸ h).1).1
 have h3:=of_decide_eq_true h2
 have hl:s.data.toList.length=s.size:=by rw[Array.length_toList];rfl
 omega
theorem nm_no {p:Pt}{c:UInt8}{x:List UInt8}(h1:c≠110)(h2:c≠109)(h3:c≠118):nmStep p c x=some p:=by unfold nmStep;rw[if_neg h1,if_neg h2,if_neg h3]
theorem takeName_any (B pb:Nat)(p:Pt)(s:ByteArray)(c:UInt8)(z:Int)(w:World)(hz:z=(c.toNat:Int))(hB:B<=w.heap.size)(h:PtIs B w pb p)(hl:p.nodes.length<=1000000)(hs:s.size<=9223372036854775807) :
  Calls Tryz.prog 188 #[.pointer (some ⟨pb,0,none⟩),.string s,.int .u8 z] w fun e w'=>Below B w w'/\NmIs B w' pb e (nmStep p c s.data.toList):=by
 obtain⟨r,hr⟩:∃r,r=nmStep p c s.data.toList:=⟨_,rfl⟩
 rw[<-hr]
 obtain⟨nv,xv,sv,h⟩:=h
 have HP:=hid' h
 obtain⟨i0,hi,hz0,hz1,hz2⟩:=info_parts X.info_str
 have hml:p.nodes.length+1<=maxLen:=by unfold maxLen;omega
 by_cases h1:c=110
 ·subst h1
  obtain rfl:z=110:=hz
  obtain⟨ok,hok⟩:∃ok,ok=okName s.data.toList:=⟨_,rfl⟩
  have hc:=cname_any s w hs
  rw[<-hok]at hc
  cases ok
  ·have HR:=hid' (show r=none by rw[hr];unfold nmStep;rw[if_pos rfl,<-hok];rfl)
   clear hr hok h
   go_enter Tryz.func188,Tryz.ntmps188
   go_wp2_with fail
   refine hc.mono ?_
   rintro e w1 ⟨rfl,rfl⟩
   go_wp2_with fail
   go_ret
   exact⟨Below.refl _ _,by rw[HR.out];rfl⟩
  ·have HR:=hid' (show r=some { p with nodes:=p.nodes++[s.data.toList] } by rw[hr];unfold nmStep;rw[if_pos rfl,<-hok];rfl)
   clear hr hok h
   go_enter Tryz.func188,Tryz.ntmps188
   go_wp2_with fail
   refine hc.mono ?_
   rintro e w1 ⟨rfl,rfl⟩
   go_upto_region 5 with fail
   have sS:=hid' (fun (V:World) (K:Kept w1 V)=>(HP.out.kept K).row.c0)
   have KT:Kept w1 w1.drew:=(Kept.refl _).drew
   refine region_z 11 (S:=fun w'=>w'.cell? ⟨pb,0,none⟩=some nv) (by kernel_rfl) (sS.out _ KT) (fun hHeld=>?_)
   generalize w1.drew=Wd at KT hHeld ⊢
   refine zk 0 hHeld ?_
   refine zk 1 hHeld ?_
   refine zk 2 hHeld ?_
   refine zk 3 hHeld ?_
   refine zk 4 hHeld ?_
   refine zk 5 hHeld ?_
   refine zr 6 fun K hK=>?_
   go_simp
   refine(anew_any s _).mono ?_
   rintro e w2 ⟨hk,rfl⟩
   have KT:=KT.trans hk
   refine hK.out _ _ (sS.out _ KT) (fun hHeld=>?_)
   clear hK K hk
   refine zr 7 fun K hK=>?_
   go_simp
   refine hK.out _ _ (sS.out _ (KT.alloc _)) (fun hHeld=>?_)
   clear hK K
   refine zr 8 fun K hK=>?_
   have Hm:=X.cell_new w2 (.string s) 9
   have KT:=KT.alloc (.cells #[.string s] 9)
   refine wp_append_lies _ (.tmp 17) (.tmp 20) 22 rfl B 9 i0 (.string ByteArray.empty) 1 16 X.und_strs hi hz0 hz1 hz2 rfl (by decide) nv p.nodes.length (strs p.nodes) rfl (HP.out.kept KT).nodes ⟨w2.heap.size,0,none⟩ 1 1 [.string s] rfl rfl Hm (fun u hu=>by simp at hu;subst hu;rfl) (by omega) hml (by omega) (Nat.le_trans hB KT.size) _ rfl ?_
   intro g4 cap4 W4 own4 hg4 hgg _
   have hP:=HP.out.kept KT
   have hpb:nv.ownBlock≠some pb:=own_row hP.nodes hP.row (by decide)
   have hr4:Row4 177 W4 pb nv (.string (bs p.name)) xv sv:=World.rowIs.of_block hP.row (hg4.block pb hP.row.lt (fun e=>hpb e.symm))
   have c4:=hr4.c0
   have f4:=World.rowIs.frozen hr4 0
   have HN:=hid' (hP.addNode (x:=s.data.toList) own4 rfl hg4 hgg)
   have HBl:=hid' (Below.grown (Below.mono KT hB) hg4 (Nat.le_trans hB KT.size) (fun k hk=>(hP.nodes.lt k hk).1))
   refine hK.out _ _ c4 (fun hHeld=>?_)
   clear hK K own4 hg4 hgg hP hr4 hpb
   refine zr 9 fun K hK=>?_
   go_simp
   refine hK.out _ _ hHeld (fun hHeld=>?_)
   clear hK K
   refine zk 10 hHeld ?_
   refine zl fun K hK=>?_
   go_simp
   refine hK.out _ _ ?_
   clear hK K
   refine zd ?_
   go_wp2_with fail
   go_ret
   exact⟨HBl.out.setCell (p:=⟨pb,0,none⟩) HP.out.le _,by rw[HR.out];exact⟨rfl,_,_,_,HN.out⟩⟩
 by_cases h2:c=109
 ·subst h2
  obtain rfl:z=109:=hz
  obtain⟨ok,hok⟩:∃ok,ok=okName s.data.toList:=⟨_,rfl⟩
  have hc:=cname_any s w hs
  rw[<-hok]at hc
  cases ok
  ·have HR:=hid' (show r=none by rw[hr];unfold nmStep;rw[if_neg (by decide),if_pos rfl,<-hok];rfl)
   clear hr hok h
   go_enter Tryz.func188,Tryz.ntmps188
   go_wp2_with fail
   refine hc.mono ?_
   rintro e w1 ⟨rfl,rfl⟩
   go_wp2_with fail
   go_ret
   exact⟨Below.refl _ _,by rw[HR.out];rfl⟩
  ·have HR:=hid' (show r=some { p with name:=s.data.toList } by rw[hr];unfold nmStep;rw[if_neg (by decide),if_pos rfl,<-hok];rfl)
   clear hr hok h
   go_enter Tryz.func188,Tryz.ntmps188
   go_wp2_with fail
   refine hc.mono ?_
   rintro e w1 ⟨rfl,rfl⟩
   go_wp2_with fail
   refine(anew_any s _).mono ?_
   rintro e w2 ⟨hk,rfl⟩
   have hP:=HP.out.kept hk
   have c4:=hP.row.c1
   have f4:=World.rowIs.frozen hP.row 1
   have HN:=hid' (hP.setName s.data.toList)
   have HBl:=hid' (Below.mono hk hB)
   clear hP hk
   go_wp2_with fail
   go_ret
   exact⟨HBl.out.setCell (p:=⟨pb,1,none⟩) HP.out.le _,by rw[HR.out];exact⟨rfl,_,_,_,HN.out⟩⟩
 by_cases h3:c=118
 ·subst h3
  obtain rfl:z=118:=hz
  obtain⟨ok,hok⟩:∃ok,ok=devB s.data.toList:=⟨_,rfl⟩
  have hc:=cdev_any s w hs
  rw[<-hok]at hc
  cases ok
  ·have HR:=hid' (show r=none by rw[hr];unfold nmStep;rw[if_neg (by decide),if_neg (by decide),if_pos rfl,<-hok];rfl)
   clear hr hok h
   go_enter Tryz.func188,Tryz.ntmps188
   go_wp2_with fail
   refine hc.mono ?_
   rintro e w1 ⟨rfl,rfl⟩
   go_wp2_with fail
   go_ret
   exact⟨Below.refl _ _,by rw[HR.out];rfl⟩
  ·have h0:0<s.size:=dev_pos hok.symm
   have h0':(0:Int)<(s.size:Int):=by omega
   have hg:s.data.toList.getD 0 0=s[0]:=by rw[List.getD_eq_getElem?_getD,bl_at' s 0 h0];rfl
   by_cases h4:s[0]=118
   ·have HR:=hid' (show r=some { p with name:=s.data.toList } by rw[hr];unfold nmStep;rw[if_neg (by decide),if_neg (by decide),if_pos rfl,if_pos ⟨hok.symm,hg.trans h4⟩])
    have hn:(s[0].toNat:Int)=118:=by rw[h4];rfl
    have hn':((s[0].toNat:Int) == 118)=true:=by simpa using hn
    have hn2:s[0].toNat=118:=by omega
    clear hr hok h hg h4
    go_enter Tryz.func188,Tryz.ntmps188
    go_wp2_with fail
    refine hc.mono ?_
    rintro e w1 ⟨rfl,rfl⟩
    go_wp2_with fail
    refine(anew_any s _).mono ?_
    rintro e w2 ⟨hk,rfl⟩
    have hP:=HP.out.kept hk
    have c4:=hP.row.c1
    have f4:=World.rowIs.frozen hP.row 1
    have HN:=hid' (hP.setName s.data.toList)
    have HBl:=hid' (Below.mono hk hB)
    clear hP hk
    go_wp2_with fail
    go_ret
    exact⟨HBl.out.setCell (p:=⟨pb,1,none⟩) HP.out.le _,by rw[HR.out];exact⟨rfl,_,_,_,HN.out⟩⟩
   ·have HR:=hid' (show r=none by rw[hr];unfold nmStep;rw[if_neg (by decide),if_neg (by decide),if_pos rfl,if_neg (fun e=>h4 (hg.symm.trans e.2))])
    have hn2:¬s[0].toNat=118:=fun e=>h4 (UInt8.toNat_inj.1 e)
    have hn:¬(s[0].toNat:Int)=118:=by omega
    have hn':((s[0].toNat:Int) == 118)=false:=by simpa using hn
    clear hr hok h hg h4
    go_enter Tryz.func188,Tryz.ntmps188
    go_wp2_with fail
    refine hc.mono ?_
    rintro e w1 ⟨rfl,rfl⟩
    go_wp2_with fail
    go_ret
    exact⟨Below.refl _ _,by rw[HR.out];rfl⟩
 ·have HR:=hid' (show r=some p by rw[hr];exact nm_no h1 h2 h3)
  have z1:¬z=110:=fun e=>h1 (UInt8.toNat_inj.1 (show c.toNat=110 by omega))
  have z2:¬z=109:=fun e=>h2 (UInt8.toNat_inj.1 (show c.toNat=109 by omega))
  have z3:¬z=118:=fun e=>h3 (UInt8.toNat_inj.1 (show c.toNat=118 by omega))
  have y1:(z == 110)=false:=by simpa using z1
  have y2:(z == 109)=false:=by simpa using z2
  have y3:(z == 118)=false:=by simpa using z3
  clear hr h hz h1 h2 h3
  go_enter Tryz.func188,Tryz.ntmps188
  go_wp2_with fail
  go_ret
  exact⟨Below.refl _ _,by rw[HR.out];exact⟨rfl,_,_,_,HP.out⟩⟩
open Q (hid' parseOf Lett ErrV)
open X (bs OwnS RS strs zk zr zl zd region_z)
def NuIs (B:Nat)(w:World)(pb:Nat)(e:Ending):Except Int Pt->Prop
 | .error x=>e=.returned (.int .i64 x)/\x≠0
 | .ok q=>e=.returned (.int .i64 0)/\PtIs B w pb q
theorem cell_two (w:World)(x y:Value)(t:TypeId):∀j u,([x,y]:List Value)[j]?=some u->(w.alloc (.cells #[x,y] t)).cell? ((⟨w.heap.size,0,none⟩:Addr).add j)=some u:=by
 intro j u hj
 match j,hj with
 |0,hj=>simp at hj;subst hj;simp[Addr.add]
 |1,hj=>simp at hj;subst hj;simp[Addr.add]
theorem nu_no {p:Pt}{c:UInt8}{x:List UInt8}(h1:c≠120)(h2:c≠115):nuStep p c x=.ok p:=by unfold nuStep;rw[if_neg h1,if_neg h2]
theorem takeNumber_any (B pb:Nat)(p:Pt)(s:ByteArray)(c:UInt8)(z:Int)(w:World)(hz:z=(c.toNat:Int))(hL:Lett w)(hE:ErrV w)(hB:B<=w.heap.size)(h:PtIs B w pb p)(hl:p.nums.length<=1000000)(hl2:p.steps.length<=1000000)(hs:s.size<=9223372036854775807) :
  Calls Tryz.prog 189 #[.pointer (some ⟨pb,0,none⟩),.string s,.int .u8 z] w fun e w'=>Below B w w'/\NuIs B w' pb e (nuStep p c s.data.toList):=by
 obtain⟨r,hr⟩:∃r,r=nuStep p c s.data.toList:=⟨_,rfl⟩
 rw[<-hr]
 obtain⟨nv,xv,sv,h⟩:=h
 have HP:=hid' h
 by_cases h1:c=120
 ·subst h1
  obtain rfl:z=120:=hz
  have hc:=Q.parse_any s w hL hE (by unfold maxLen;exact hs)
  obtain⟨q,hq⟩:∃q,q=parseOf s.data.toList:=⟨_,rfl⟩
  rw[<-hq]at hc
  obtain⟨m,x,er⟩:=q
  unfold Q.numE at hc
  by_cases he0:er=0
  ·subst he0
   have HR:=hid' (show r=.ok { p with nums:=p.nums++[(m,x)] } by rw[hr];unfold nuStep;rw[if_pos rfl,<-hq];rfl)
   obtain⟨i0,hi,hz0,hz1,hz2⟩:=info_parts info_num
   have hml:p.nums.length+1<=maxLen:=by unfold maxLen;omega
   clear hr hq h hL hE
   go_enter Tryz.func189,Tryz.ntmps189
   go_wp2_with fail
   refine hc.mono ?_
   rintro e w1 ⟨hk,rfl⟩
   clear hc
   go_upto_region 6 with fail
   have hR:=Q.Row2.alloc 25 w1 (.int .i64 m) (.int .i64 x)
   have hK:=hk.alloc (.cells #[.int .i64 m,.int .i64 x] 25)
   generalize w1.alloc (.cells #[.int .i64 m,.int .i64 x] 25)=W1 at hR hK ⊢
   obtain⟨qn,hqn⟩:∃q,q=w1.heap.size:=⟨_,rfl⟩
   rw[<-hqn]at hR ⊢
   have hqw:w.heap.size<=qn:=by rw[hqn];exact hk.size
   clear hqn hk
   have sS:=hid' (fun (V:World) (K:Kept W1 V)=>And.intro ((HP.out.kept (hK.trans K)).row.c2) (And.intro (hR.kept K).c0 (hR.kept K).c1))
   have HKW:=hid' (And.intro hK hR)
   clear hK hR
   have KT:Kept W1 W1.drew:=(Kept.refl _).drew
   refine region_z 10 (S:=fun w'=>w'.cell? ⟨pb,2,none⟩=some xv/\w'.cell? ⟨qn,0,none⟩=some (.int .i64 m)/\w'.cell? ⟨qn,1,none⟩=some (.int .i64 x)) (by kernel_rfl) (sS.out _ KT) (fun hHeld=>?_)
   generalize W1.drew=Wd at KT hHeld ⊢
   refine zk 0 hHeld ?_
   refine zk 1 hHeld ?_
   refine zk 2 hHeld ?_
   refine zk 3 hHeld ?_
   refine zk 4 hHeld ?_
   refine X.zr 5 fun K hK=>?_
   obtain⟨hS0,hS1,hS2⟩:=hHeld
   go_simp
   refine hK.out _ _ (sS.out _ KT) (fun hHeld=>?_)
   clear hK K hS0 hS1 hS2
   refine zr 6 fun K hK=>?_
   go_simp
   refine hK.out _ _ (sS.out _ (KT.alloc _)) (fun hHeld=>?_)
   clear hK K
   refine zr 7 fun K hK=>?_
   have Hm:=cell_two Wd (.int .i64 m) (.int .i64 x) 25
   have KT:=KT.alloc (.cells #[.int .i64 m,.int .i64 x] 25)
   have hP:=HP.out.kept (HKW.out.1.trans KT)
   refine wp_append_lies _ (.tmp 26) (.tmp 28) 42 rfl B 25 i0 (.agg #[.int .i64 0,.int .i64 0]) 2 16 und_nums hi hz0 hz1 hz2 rfl (by decide) xv p.nums.length (ncs p.nums) rfl hP.nums ⟨Wd.heap.size,0,none⟩ 1 1 [.int .i64 m,.int .i64 x] rfl rfl Hm (fun u hu=>by simp at hu;rcases hu with rfl|rfl <;> rfl) (by omega) hml (by omega) (Nat.le_trans hB (HKW.out.1.trans KT).size) _ rfl ?_
   intro g4 cap4 W4 own4 hg4 hgg _
   have hpb:xv.ownBlock≠some pb:=own_row hP.nums hP.row (by decide)
   have hr4:Row4 177 W4 pb nv (.string (bs p.name)) xv sv:=World.rowIs.of_block hP.row (hg4.block pb hP.row.lt (fun e=>hpb e.symm))
   have hR3:=HKW.out.2.kept KT
   have hqb:xv.ownBlock≠some qn:=fun e=>by have h1:=(HP.out.nums.lt qn e).2;omega
   have hR4:Q.Row2 25 W4 qn (.int .i64 m) (.int .i64 x):=World.rowIs.of_block hR3 (hg4.block qn hR3.lt (fun e=>hqb e.symm))
   have HN:=hid' (hP.addNum (x:=(m,x)) own4 rfl hg4 hgg)
   have HBl:=hid' (Below.grown (Below.mono (HKW.out.1.trans KT) hB) hg4 (Nat.le_trans hB (HKW.out.1.trans KT).size) (fun k hk=>(hP.nums.lt k hk).1))
   have c4:=hr4.c2
   have f4:=World.rowIs.frozen hr4 2
   refine hK.out _ _ ⟨c4,hR4.c0,hR4.c1⟩ (fun hHeld=>?_)
   clear hK K own4 hg4 hgg hP hr4 hpb hR4 hR3 hqb
   refine zr 8 fun K hK=>?_
   go_simp
   refine hK.out _ _ hHeld (fun hHeld=>?_)
   clear hK K
   refine zk 9 hHeld ?_
   refine zl fun K hK=>?_
   go_simp
   refine hK.out _ _ ?_
   clear hK K
   refine zd ?_
   go_wp2_with fail
   go_ret
   exact⟨HBl.out.setCell (p:=⟨pb,2,none⟩) HP.out.le _,by rw[HR.out];exact⟨rfl,_,_,_,HN.out⟩⟩
  ·have hen:¬er=0:=he0
   have hen':(er == 0)=false:=by simpa using hen
   have HR:=hid' (show r=.error er by rw[hr];unfold nuStep;rw[if_pos rfl,<-hq,if_neg he0])
   clear hr hq h hL hE
   go_enter Tryz.func189,Tryz.ntmps189
   go_wp2_with fail
   refine hc.mono ?_
   rintro e w1 ⟨hk,rfl⟩
   have HK:=hid' hk
   clear hc hk
   go_wp2_with fail
   go_ret
   exact⟨Below.mono (HK.out.alloc _) hB,by rw[HR.out];exact⟨rfl,hen⟩⟩
 by_cases h2:c=115
 ·subst h2
  obtain rfl:z=115:=hz
  have hc:=step_any s w hs
  obtain⟨q,hq⟩:∃q,q=stepT s.data.toList:=⟨_,rfl⟩
  rw[<-hq]at hc
  obtain⟨m,ok⟩:=q
  cases ok
  ·have HR:=hid' (show r=.error 3 by rw[hr];unfold nuStep;rw[if_neg (by decide),if_pos rfl,<-hq];rfl)
   clear hr hq h hL hE
   go_enter Tryz.func189,Tryz.ntmps189
   go_wp2_with fail
   refine hc.mono ?_
   rintro e w1 ⟨rfl,rfl⟩
   clear hc
   go_wp2_with fail
   go_ret
   exact⟨Below.refl _ _,by rw[HR.out];exact⟨rfl,by decide⟩⟩
  ·have HR:=hid' (show r=.ok { p with steps:=p.steps++[m] } by rw[hr];unfold nuStep;rw[if_neg (by decide),if_pos rfl,<-hq];rfl)
   obtain⟨i0,hi,hz0,hz1,hz2⟩:=info_parts info_i64
   have hml:p.steps.length+1<=maxLen:=by unfold maxLen;omega
   have c3:=h.row.c3
   clear hr hq h hL hE
   go_enter Tryz.func189,Tryz.ntmps189
   go_wp2_with fail
   refine hc.mono ?_
   rintro e w1 ⟨rfl,rfl⟩
   clear hc
   go_wp2_with (at_builtin;refine wpList_append_lies _ rfl (.tmp 45) (.tmp 47) 31 rfl B 3 i0 (.int .i64 0) 1 8 und_ints hi hz0 hz1 hz2 rfl (by decide) sv p.steps.length (p.steps.map (Value.int .i64)) rfl (HP.out.kept ((Kept.refl w1).alloc _)).steps ⟨w1.heap.size,0,none⟩ 1 1 [.int .i64 m] rfl rfl (X.cell_new w1 _ _) (fun u hu=>by simp at hu;subst hu;rfl) (by omega) hml (by omega) (by simp;omega) _ rfl ?_)
   intro g4 cap4 W4 own4 hg4 hgg _
   have KT:=(Kept.refl w1).alloc (.cells #[.int .i64 m] 3)
   have hP:=HP.out.kept KT
   have hpb:sv.ownBlock≠some pb:=own_row hP.steps hP.row (by decide)
   have hr4:Row4 177 W4 pb nv (.string (bs p.name)) xv sv:=World.rowIs.of_block hP.row (hg4.block pb hP.row.lt (fun e=>hpb e.symm))
   have HN:=hid' (hP.addStep (x:=m) own4 rfl hg4 (by simpa using hgg))
   have HBl:=hid' (Below.grown (Below.mono KT hB) hg4 (Nat.le_trans hB KT.size) (fun k hk=>(hP.steps.lt k hk).1))
   have c4:=hr4.c3
   have f4:=World.rowIs.frozen hr4 3
   clear own4 hg4 hgg hP hr4 hpb KT c3
   go_wp2_with fail
   go_ret
   exact⟨HBl.out.setCell (p:=⟨pb,3,none⟩) HP.out.le _,by rw[HR.out];exact⟨rfl,_,_,_,HN.out⟩⟩
 ·have HR:=hid' (show r=.ok p by rw[hr];exact nu_no h1 h2)
  have z1:¬z=120:=fun e=>h1 (UInt8.toNat_inj.1 (show c.toNat=120 by omega))
  have z2:¬z=115:=fun e=>h2 (UInt8.toNat_inj.1 (show c.toNat=115 by omega))
  have y1:(z == 120)=false:=by simpa using z1
  have y2:(z == 115)=false:=by simpa using z2
  clear hr h hz h1 h2 hL hE
  go_enter Tryz.func189,Tryz.ntmps189
  go_wp2_with fail
  go_ret
  exact⟨Below.refl _ _,by rw[HR.out];exact⟨rfl,_,_,_,HP.out⟩⟩
open Q (hid' parseOf Lett ErrV)
open X (bs OwnS RS strs)
def PaIs (B:Nat)(w:World)(e:Ending):Except Int Pt->Prop
 | .error x=>e=.returned (.tuple #[.agg #[.slice none 0 0,.string ⟨#[]⟩,.slice none 0 0,.slice none 0 0],.int .i64 x])/\x≠0
 | .ok p=>∃nv xv sv,e=.returned (.tuple #[.agg #[nv,.string (bs p.name),xv,sv],.int .i64 0])/\OwnS B w nv p.nodes/\OwnN B w xv p.nums/\OwnI B w sv p.steps
theorem parts_err {ws:List (List UInt8)}{sh:List UInt8}(h:ws.length≠sh.length):partsOf ws sh=.error 70:=by unfold partsOf;rw[if_pos h]
theorem _root_.Go.Proofs.YtdjhmgmjiglcbaaGreatDoor.Kept.trans_below {a b c:World}{B:Nat}(h:Kept a b)(k:Below B b c)(hB:a.heap.size<=B):Kept a c:=Below.trans h (Below.mono k hB)
theorem kept_put4 {a b:World}{p:Nat}(h:Kept a b)(hp:a.heap.size<=p)(x0 x1 x2 x3:Value):Kept a ((((b.setCell ⟨p,0,none⟩ x0).setCell ⟨p,1,none⟩ x1).setCell ⟨p,2,none⟩ x2).setCell ⟨p,3,none⟩ x3) :=
 (((h.setCell (p:=⟨p,0,none⟩) hp x0).setCell (p:=⟨p,1,none⟩) hp x1).setCell (p:=⟨p,2,none⟩) hp x2).setCell (p:=⟨p,3,none⟩) hp x3
structure RpI (w wr:World) (sh:List UInt8) (ws:List (List UInt8)) (k:Nat) (p:Pt):Prop where
 kp:Kept w wr
 rr:Row4 177 wr w.heap.size (.slice none 0 0) (.string ⟨#[]⟩) (.slice none 0 0) (.slice none 0 0)
 pt:PtIs (w.heap.size+1) wr (w.heap.size+1) p
 eq:nmAll Pt.zero (sh.zip ws)=nmAll p ((sh.zip ws).drop k)
 len:p.nodes.length<=k
 nn:p.nums=[]
 ns:p.steps=[]
structure RqI (w wr:World) (p0:Pt) (sh:List UInt8) (ws:List (List UInt8)) (k:Nat) (p:Pt):Prop where
 kp:Kept w wr
 rr:Row4 177 wr w.heap.size (.slice none 0 0) (.string ⟨#[]⟩) (.slice none 0 0) (.slice none 0 0)
 pt:PtIs (w.heap.size+1) wr (w.heap.size+1) p
 eq:nuAll p0 (sh.zip ws)=nuAll p ((sh.zip ws).drop k)
 ln:p.nums.length<=k
 ls:p.steps.length<=k
theorem readParts_any (ao:Option Addr)(n c:Nat)(ws:List (List UInt8))(t:ByteArray)(w:World)(hL:Lett w)(hE:ErrV w)(h:RS w (.slice ao n c) ws)(ht:t.size<=1000)(hs:∀x∈ws,x.length<=9223372036854775807) :
  Calls Tryz.prog 159 #[.slice ao n c,.string t] w fun e w'=>Kept w w'/\PaIs w.heap.size w' e (partsOf ws t.data.toList):=by
 have hn:n=ws.length:=by obtain⟨_,_,e,_⟩:=h;simp at e;exact e.2.1
 have hl:t.data.toList.length=t.size:=by rw[Array.length_toList];rfl
 have HS:=hid' (And.intro h (And.intro hn (And.intro hs (And.intro hL hE))))
 by_cases hne:n=t.size
 ·subst hne
  obtain⟨r,hr⟩:∃r,r=partsOf ws t.data.toList:=⟨_,rfl⟩
  rw[<-hr]
  have HLn:=hid' (show ws.length=t.data.toList.length by omega)
  have HR:=hid' hr
  have HN:=hid' (And.intro hn hl)
  clear hr h hs hL hE hn hl
  go_enter Tryz.func159,Tryz.ntmps159
  go_wp2_with fail
  have hK:=((Kept.refl w).alloc (.cells #[.slice none 0 0,.string ⟨#[]⟩,.slice none 0 0,.slice none 0 0] 177)).alloc (.cells #[.slice none 0 0,.string ⟨#[]⟩,.slice none 0 0,.slice none 0 0] 177)
  have hr1:=(Row4.alloc 177 w (.slice none 0 0) (.string ⟨#[]⟩) (.slice none 0 0) (.slice none 0 0)).kept ((Kept.refl _).alloc (.cells #[.slice none 0 0,.string ⟨#[]⟩,.slice none 0 0,.slice none 0 0] 177))
  have hr2:=Row4.alloc 177 (w.alloc (.cells #[.slice none 0 0,.string ⟨#[]⟩,.slice none 0 0,.slice none 0 0] 177)) (.slice none 0 0) (.string ⟨#[]⟩) (.slice none 0 0) (.slice none 0 0)
  rw[World.size_alloc]at hr2
  have HI:Hid (RpI w _ t.data.toList ws 0 Pt.zero):=⟨hK,hr1,⟨_,_,_,Nat.le_refl _,hr2,OwnS.nil _ _,World.ownsRow_nil _ _ _ _,World.ownsRow_nil _ _ _ _⟩,rfl,Nat.le_refl _,rfl,rfl⟩
  clear hK hr1 hr2
  generalize (w.alloc (.cells #[.slice none 0 0,.string ⟨#[]⟩,.slice none 0 0,.slice none 0 0] 177)).alloc (.cells #[.slice none 0 0,.string ⟨#[]⟩,.slice none 0 0,.slice none 0 0] 177)=W0 at HI ⊢
  obtain⟨rb,hrb⟩:∃q,q=w.heap.size:=⟨_,rfl⟩
  rw[<-hrb]
  have HRB:=hid' hrb
  clear hrb
  go_loopw [20] (fun vi wr=>∃(k:Nat) (p:Pt),k<=t.size/\vi=.int .i64 (k:Int)/\Hid (RpI w wr t.data.toList ws k p)) (fun vi _=>t.size-(intOf vi).toNat)
  case atStart=>exact⟨0,Pt.zero,Nat.zero_le _,rfl,HI.out⟩
  case round=>
   obtain⟨k,p,hk,rfl,H⟩:=hrel
   clear HI
   by_cases hkt:k<t.size
   ·have hkti:(k:Int)<(t.size:Int):=by omega
    obtain⟨ao',c',hv,hx⟩:=HS.out.1.kept H.out.kp
    simp only[Value.slice.injEq]at hv
    obtain⟨rfl,hnw,rfl⟩:=hv
    obtain⟨b,off,rfl,hb,hcl⟩:=hx (by omega)
    have ck:=hcl k (by omega)
    have hsz:(bs (ws.getD k [])).size<=9223372036854775807:=by
     rw[X.bs_size]
     refine HS.out.2.2.1 _ ?_
     rw[List.getD_eq_getElem?_getD,List.getElem?_eq_getElem (by omega)]
     exact List.getElem_mem _
    have hct:=takeName_any (w.heap.size+1) (w.heap.size+1) p (bs (ws.getD k [])) t[k] (t[k].toNat:Int) wr rfl (by have:=H.out.rr.lt;omega) H.out.pt (by have:=H.out.len;omega) hsz
    rw[X.bs_list]at hct
    have HZ:=hid' (show nmAll Pt.zero (t.data.toList.zip ws)=match nmStep p t[k] (ws.getD k []) with
      |none=>none
      |some q=>nmAll q ((t.data.toList.zip ws).drop (k+1)) by
     rw[H.out.eq,zip_drop HLn.out (by omega),nmAll]
     simp only[]
     rw[show t.data.toList.getD k 0=t[k] by rw[List.getD_eq_getElem?_getD,bl_at' t k hkt];rfl]
     first|done|(cases nmStep p t[k] (ws.getD k []) <;> rfl))
    obtain⟨o,ho⟩:∃o,o=nmStep p t[k] (ws.getD k []):=⟨_,rfl⟩
    rw[<-ho]at hct HZ
    have HO:=hid' ho
    generalize bs (ws.getD k [])=sk at ck hct hsz
    clear hx hcl ho hnw
    rw[<-HRB.out]at hct
    go_wp2_with fail
    refine hct.mono ?_
    rintro e w2 ⟨hb2,hnm⟩
    have hrr:Row4 177 w2 rb (.slice none 0 0) (.string ⟨#[]⟩) (.slice none 0 0) (.slice none 0 0):=by
     have:=H.out.rr
     rw[<-HRB.out]at this
     exact World.rowIs.of_block this (hb2.block rb (Nat.lt_succ_self _))
    have HK2:=hid' (H.out.kp.trans_below hb2 (by rw[HRB.out];exact Nat.le_succ _))
    have HRR:=hid' hrr
    cases o with
    |none=>
     obtain rfl:e=.returned (.bool false):=hnm
     have HE:=hid' (show r=.error 71 by rw[HR.out];unfold partsOf;rw[if_neg (by have:=HLn.out;omega),HZ.out])
     have d0:=hrr.c0
     have d1:=hrr.c1
     have d2:=hrr.c2
     have d3:=hrr.c3
     have z:=World.rowIs.frozen hrr
     clear hrr hct hb2 ck
     go_wp2_with fail
     refine bodyPost_ret (v:=.tuple #[.agg #[.slice none 0 0,.string ⟨#[]⟩,.slice none 0 0,.slice none 0 0],.int .i64 71]) (by simp[results,Tryz.results159,go_sem,d0,d1,d2,d3]) rfl ⟨?_,?_⟩
     ·exact kept_put4 HK2.out (by rw[HRB.out];exact Nat.le_refl _) _ _ _ _
     ·rw[HE.out]
      exact⟨rfl,by decide⟩
    |some q=>
     obtain⟨rfl,hq⟩:=hnm
     have HQ:=hid' hq
     have HKp:=hid' (nmStep_keep HO.out.symm)
     clear hrr hct hb2 ck hq
     go_wp2_with fail
     go_roundw
     case rel=>
      refine⟨k+1,q,by omega,by go_num,HK2.out,?_,?_,HZ.out,?_,HKp.out.1.trans H.out.nn,HKp.out.2.1.trans H.out.ns⟩
      ·rw[<-HRB.out];exact HRR.out
      ·rw[<-HRB.out];exact HQ.out
      ·have h1:=HKp.out.2.2
       have h2:=H.out.len
       omega
     case measure=>show t.size-((k:Int)+1).toNat<t.size-(k:Int).toNat;omega
   ·have hkti:¬(k:Int)<(t.size:Int):=by omega
    obtain rfl:k=t.size:=by omega
    have HA:=hid' (show nmAll Pt.zero (t.data.toList.zip ws)=some p by
     rw[H.out.eq,List.drop_eq_nil_of_le (by rw[List.length_zip,HN.out.2];omega)]
     rfl)
    have HR2:=hid' (show r=nuAll p (t.data.toList.zip ws) by rw[HR.out];unfold partsOf;rw[if_neg (by have:=HLn.out;omega),HA.out])
    have HI2:Hid (RqI w wr p t.data.toList ws 0 p):=⟨H.out.kp,H.out.rr,H.out.pt,rfl,by rw[H.out.nn];exact Nat.le_refl _,by rw[H.out.ns];exact Nat.le_refl _⟩
    obtain⟨W1,hW1⟩:∃W,W=wr:=⟨_,rfl⟩
    rw[<-hW1]at HI2 ⊢
    clear H hW1 hk hkt hkti
    go_wp2_with fail
    go_loopw [35] (fun vi wr=>∃(k:Nat) (q:Pt),k<=t.size/\vi=.int .i64 (k:Int)/\Hid (RqI w wr p t.data.toList ws k q)) (fun vi _=>t.size-(intOf vi).toNat)
    case atStart=>exact⟨0,p,Nat.zero_le _,rfl,HI2.out⟩
    case round=>
     obtain⟨k,q,hk,rfl,H⟩:=hrel
     clear HI2
     by_cases hkt:k<t.size
     ·have hkti:(k:Int)<(t.size:Int):=by omega
      obtain⟨ao',c',hv,hx⟩:=HS.out.1.kept H.out.kp
      simp only[Value.slice.injEq]at hv
      obtain⟨rfl,hnw,rfl⟩:=hv
      obtain⟨b,off,rfl,hb,hcl⟩:=hx (by omega)
      have ck:=hcl k (by omega)
      have hsz:(bs (ws.getD k [])).size<=9223372036854775807:=by
       rw[X.bs_size]
       refine HS.out.2.2.1 _ ?_
       rw[List.getD_eq_getElem?_getD,List.getElem?_eq_getElem (by omega)]
       exact List.getElem_mem _
      have hct:=takeNumber_any (w.heap.size+1) (w.heap.size+1) q (bs (ws.getD k [])) t[k] (t[k].toNat:Int) wr rfl (HS.out.2.2.2.1.kept H.out.kp) (HS.out.2.2.2.2.kept H.out.kp) (by have:=H.out.rr.lt;omega) H.out.pt (by have:=H.out.ln;omega) (by have:=H.out.ls;omega) hsz
      rw[X.bs_list]at hct
      have HZ:=hid' (show nuAll p (t.data.toList.zip ws)=match nuStep q t[k] (ws.getD k []) with
        | .error e=>.error e
        | .ok q=>nuAll q ((t.data.toList.zip ws).drop (k+1)) by
       rw[H.out.eq,zip_drop HLn.out (by omega),nuAll]
       simp only[]
       rw[show t.data.toList.getD k 0=t[k] by rw[List.getD_eq_getElem?_getD,bl_at' t k hkt];rfl]
       first|done|(cases nuStep q t[k] (ws.getD k []) <;> rfl))
      obtain⟨o,ho⟩:∃o,o=nuStep q t[k] (ws.getD k []):=⟨_,rfl⟩
      rw[<-ho]at hct HZ
      have HO:=hid' ho
      generalize bs (ws.getD k [])=sk at ck hct hsz
      clear hx hcl ho hnw
      rw[<-HRB.out]at hct
      go_wp2_with fail
      refine hct.mono ?_
      rintro e w2 ⟨hb2,hnm⟩
      have hrr:Row4 177 w2 rb (.slice none 0 0) (.string ⟨#[]⟩) (.slice none 0 0) (.slice none 0 0):=by
       have:=H.out.rr
       rw[<-HRB.out]at this
       exact World.rowIs.of_block this (hb2.block rb (Nat.lt_succ_self _))
      have HK2:=hid' (H.out.kp.trans_below hb2 (by rw[HRB.out];exact Nat.le_succ _))
      have HRR:=hid' hrr
      cases o with
      |error x=>
       obtain⟨rfl,hx0⟩:=hnm
       have hx0':(x == 0)=false:=by simpa using hx0
       have HE:=hid' (show r=.error x by rw[HR2.out,HZ.out])
       have d0:=hrr.c0
       have d1:=hrr.c1
       have d2:=hrr.c2
       have d3:=hrr.c3
       have z:=World.rowIs.frozen hrr
       clear hrr hct hb2 ck
       go_wp2_with fail
       refine bodyPost_ret (v:=.tuple #[.agg #[.slice none 0 0,.string ⟨#[]⟩,.slice none 0 0,.slice none 0 0],.int .i64 x]) (by simp[results,Tryz.results159,go_sem,d0,d1,d2,d3]) rfl ⟨?_,?_⟩
       ·exact kept_put4 HK2.out (by rw[HRB.out];exact Nat.le_refl _) _ _ _ _
       ·rw[HE.out]
        exact⟨rfl,hx0⟩
      |ok q'=>
       obtain⟨rfl,hq⟩:=hnm
       have HQ:=hid' hq
       have HKp:=hid' (nuStep_keep HO.out.symm)
       clear hrr hct hb2 ck hq
       go_wp2_with fail
       go_roundw
       case rel=>
        refine⟨k+1,q',by omega,by go_num,HK2.out,?_,?_,HZ.out,?_,?_⟩
        ·rw[<-HRB.out];exact HRR.out
        ·rw[<-HRB.out];exact HQ.out
        ·have h1:=HKp.out.2.2.1
         have h2:=H.out.ln
         split at h1 <;> omega
        ·have h1:=HKp.out.2.2.2
         have h2:=H.out.ls
         split at h1 <;> omega
       case measure=>show t.size-((k:Int)+1).toNat<t.size-(k:Int).toNat;omega
     ·have hkti:¬(k:Int)<(t.size:Int):=by omega
      obtain rfl:k=t.size:=by omega
      have HE:=hid' (show r=.ok q by
       rw[HR2.out,H.out.eq,List.drop_eq_nil_of_le (by rw[List.length_zip,HN.out.2];omega)]
       rfl)
      obtain⟨nv,xv,sv,hP⟩:=H.out.pt
      have hrr:=H.out.rr
      rw[<-HRB.out]at hP hrr
      have c0:=hP.row.c0
      have c1:=hP.row.c1
      have c2:=hP.row.c2
      have c3:=hP.row.c3
      have d0:=hrr.c0
      have d1:=hrr.c1
      have d2:=hrr.c2
      have d3:=hrr.c3
      have z:=World.rowIs.frozen hrr
      have HP:=hid' (And.intro hP hrr)
      obtain⟨a1,k1,rfl⟩:=own_shape hP.nodes
      obtain⟨a2,k2,rfl⟩:=own_shape hP.nums
      obtain⟨a3,k3,rfl⟩:=own_shape hP.steps
      clear hP hrr
      go_wp2_with fail
      refine bodyPost_ret (v:=.tuple #[.agg #[.slice a1 q.nodes.length k1,.string (bs q.name),.slice a2 q.nums.length k2,.slice a3 q.steps.length k3],.int .i64 0]) (by simp[results,Tryz.results159,go_sem,d0,d1,d2,d3]) rfl ⟨?_,?_⟩
      ·exact kept_put4 H.out.kp (by rw[HRB.out];exact Nat.le_refl _) _ _ _ _
      ·rw[HE.out]
       have o:∀b,b≠rb->((((wr.setCell ⟨rb,0,none⟩ (.slice a1 q.nodes.length k1)).setCell ⟨rb,1,none⟩ (.string (bs q.name))).setCell ⟨rb,2,none⟩ (.slice a2 q.nums.length k2)).setCell ⟨rb,3,none⟩ (.slice a3 q.steps.length k3)).heap[b]?=wr.heap[b]?:=fun b hb=>
        (Deep.blk_setCell_other _ _ _ _ hb).trans ((Deep.blk_setCell_other _ _ _ _ hb).trans ((Deep.blk_setCell_other _ _ _ _ hb).trans (Deep.blk_setCell_other _ _ _ _ hb)))
       have hle:w.heap.size<=rb+1:=by have:=HRB.out;omega
       refine⟨_,_,_,rfl,own_mono (own_kept HP.out.1.nodes fun b hb=>o b ?_) hle,own_mono (own_kept HP.out.1.nums fun b hb=>o b ?_) hle,own_mono (own_kept HP.out.1.steps fun b hb=>o b ?_) hle⟩
       ·intro e;subst e;exact own_row HP.out.1.nodes HP.out.2 (by decide) hb
       ·intro e;subst e;exact own_row HP.out.1.nums HP.out.2 (by decide) hb
       ·intro e;subst e;exact own_row HP.out.1.steps HP.out.2 (by decide) hb
 ·have hnz:¬(n:Int)=(t.size:Int):=by omega
  have hnz':((n:Int) == (t.size:Int))=false:=by simpa using hnz
  rw[parts_err (show ws.length≠t.data.toList.length by omega)]
  clear h hs hL hE hl hn
  go_enter Tryz.func159,Tryz.ntmps159
  go_wp2_with fail
  refine bodyPost_ret (v:=.tuple #[.agg #[.slice none 0 0,.string ⟨#[]⟩,.slice none 0 0,.slice none 0 0],.int .i64 70]) (by simp[results,Tryz.results159,go_sem]) rfl ⟨?_,rfl,by decide⟩
  exact((Kept.refl w).alloc _).alloc _
open Q (hid' parseOf Lett ErrV)
open X (bs OwnS RS strs bs_list bs_size)
theorem head_of {s:ByteArray}{l:List UInt8}(h:0<s.size)(e:s=bs l):s[0]=l.getD 0 0:=by
 subst e
 exact head_bs _ h
theorem among_is (c:UInt8)(s:ByteArray)(L:List UInt8)(w:World)(hL:s.data.toList=L):Calls Tryz.prog 157 #[.int .u8 (c.toNat:Int),.string s] w fun e w'=>w'=w/\e=.returned (.bool (decide (c∈L))):=by
 refine(among_any (c.toNat:Int) s w).mono ?_
 rintro e w' ⟨rfl,rfl⟩
 refine⟨rfl,?_⟩
 rw[hL,Int.toNat_natCast,show c.toNat.toUInt8=c by simp]
 exact congrArg (fun b=>Ending.returned (Value.bool b)) (decide_eq_decide.2 (ib_mem' c L))
theorem _root_.Go.Proofs.YtdjhmgmjiglcbaaGreatDoor.Kept.set8 {a b:World}{p:Nat}(h:Kept a b)(hp:a.heap.size<=p)(x0 x1 x2 x3 x4 x5 x6 x7:Value):Kept a ((((((((b.setCell ⟨p,0,none⟩ x0).setCell ⟨p,1,none⟩ x1).setCell ⟨p,2,none⟩ x2).setCell ⟨p,3,none⟩ x3).setCell ⟨p,4,none⟩ x4).setCell ⟨p,5,none⟩ x5).setCell ⟨p,6,none⟩ x6).setCell ⟨p,7,none⟩ x7) :=
 (((((((h.setCell (p:=⟨p,0,none⟩) hp x0).setCell (p:=⟨p,1,none⟩) hp x1).setCell (p:=⟨p,2,none⟩) hp x2).setCell (p:=⟨p,3,none⟩) hp x3).setCell (p:=⟨p,4,none⟩) hp x4).setCell (p:=⟨p,5,none⟩) hp x5).setCell (p:=⟨p,6,none⟩) hp x6).setCell (p:=⟨p,7,none⟩) hp x7
theorem _root_.Go.Proofs.YtdjhmgmjiglcbaaGreatDoor.Kept.put3' {a b:World}{p:Nat}(h:Kept a b)(hp:a.heap.size<=p)(i j k:Nat)(x y z:Value):Kept a (((b.setCell ⟨p,i,none⟩ x).setCell ⟨p,j,none⟩ y).setCell ⟨p,k,none⟩ z) :=
 ((h.setCell (p:=⟨p,i,none⟩) hp x).setCell (p:=⟨p,j,none⟩) hp y).setCell (p:=⟨p,k,none⟩) hp z
def cardV (ws:List (List UInt8))(p:Pt)(nv xv sv:Value):Value :=
 if waveC (headC ws)=true then .agg #[.string (bs (ws.getD 0 [])),nv,.string (bs p.name),.int .i64 0,.int .i64 0,.int .i64 (wkindL (ws.getD 3 [])),xv,sv]
 else if valueC (headC ws)=true then .agg #[.string (bs (ws.getD 0 [])),nv,.string (bs p.name),.int .i64 (p.nums.getD 0 (0,0)).1,.int .i64 (p.nums.getD 0 (0,0)).2,.int .i64 0,.slice none 0 0,.slice none 0 0]
 else .agg #[.string (bs (ws.getD 0 [])),nv,.string (bs p.name),.int .i64 0,.int .i64 0,.int .i64 0,.slice none 0 0,.slice none 0 0]
theorem cardOf_any (ao:Option Addr)(n c:Nat)(ws:List (List UInt8))(p:Pt)(a1 a2 a3:Option Addr)(n1 k1 n2 k2 n3 k3:Nat)(w:World)(h:RS w (.slice ao n c) ws)(hn1:1<=n)(hh:0<(ws.getD 0 []).length)
  (hw:waveC (headC ws)=true->4<=n) (hv:valueC (headC ws)=true->0<p.nums.length) (hx:NSl w (.slice a2 n2 k2) p.nums) :
  Calls Tryz.prog 161 #[.slice ao n c,.agg #[.slice a1 n1 k1,.string (bs p.name),.slice a2 n2 k2,.slice a3 n3 k3]] w fun e w'=>Kept w w' /\
   e=.returned (cardV ws p (.slice a1 n1 k1) (.slice a2 n2 k2) (.slice a3 n3 k3)):=by
 have HS:=hid' (And.intro h (And.intro hn1 (And.intro hh (And.intro hw (And.intro hv hx)))))
 clear h hh hw hv hx
 obtain⟨s0,hs0⟩:∃s,s=bs (ws.getD 0 []):=⟨_,rfl⟩
 obtain⟨s1,hs1⟩:∃s,s=bs p.name:=⟨_,rfl⟩
 obtain⟨r,hr⟩:∃r,r=cardV ws p (.slice a1 n1 k1) (.slice a2 n2 k2) (.slice a3 n3 k3):=⟨_,rfl⟩
 rw[<-hs1,<-hr]
 have HRR:=hid' (And.intro hr (And.intro hs0 hs1))
 have HS0:=hid' hs0
 clear hs0 hs1 hr
 go_enter Tryz.func161,Tryz.ntmps161
 go_upto_region 1 with fail
 have hK:=((Kept.refl w).alloc (.cells #[.slice a1 n1 k1,.string s1,.slice a2 n2 k2,.slice a3 n3 k3] 177)).alloc (.cells #[.string ⟨#[]⟩,.slice none 0 0,.string ⟨#[]⟩,.int .i64 0,.int .i64 0,.int .i64 0,.slice none 0 0,.slice none 0 0] 110)
 have hP:=(RowL.alloc 177 w [.slice a1 n1 k1,.string s1,.slice a2 n2 k2,.slice a3 n3 k3]).kept ((Kept.refl _).alloc (.cells #[.string ⟨#[]⟩,.slice none 0 0,.string ⟨#[]⟩,.int .i64 0,.int .i64 0,.int .i64 0,.slice none 0 0,.slice none 0 0] 110))
 have hC:=RowL.alloc 110 (w.alloc (.cells #[.slice a1 n1 k1,.string s1,.slice a2 n2 k2,.slice a3 n3 k3] 177)) [.string ⟨#[]⟩,.slice none 0 0,.string ⟨#[]⟩,.int .i64 0,.int .i64 0,.int .i64 0,.slice none 0 0,.slice none 0 0]
 rw[World.size_alloc]at hC
 have hq2:w.heap.size<=w.heap.size+1:=Nat.le_succ _
 generalize (w.alloc (.cells #[.slice a1 n1 k1,.string s1,.slice a2 n2 k2,.slice a3 n3 k3] 177)).alloc (.cells #[.string ⟨#[]⟩,.slice none 0 0,.string ⟨#[]⟩,.int .i64 0,.int .i64 0,.int .i64 0,.slice none 0 0,.slice none 0 0] 110)=W0 at hK hP hC ⊢
 obtain⟨q1,hq1e⟩:∃q,q=w.heap.size+1:=⟨_,rfl⟩
 rw[<-hq1e]at hC hq2 ⊢
 obtain⟨q0,hq0e⟩:∃q,q=w.heap.size:=⟨_,rfl⟩
 rw[<-hq0e]at hP ⊢
 have HB:=hid' (And.intro hK (And.intro hP (And.intro hC hq2)))
 clear hK hP hC hq2 hq1e hq0e
 obtain⟨b,off,rfl,ck⟩:∃b off,ao=some ⟨b,off,none⟩/\Hid (b<w.heap.size/\∀j,j<n->w.cell? ⟨b,off+j,none⟩=some (.string (bs (ws.getD j [])))):=by
  obtain⟨ao',c',hv,hx⟩:=HS.out.1
  simp only[Value.slice.injEq]at hv
  obtain⟨rfl,hn,rfl⟩:=hv
  obtain⟨b,off,e,h1,h2⟩:=hx (by omega)
  exact⟨b,off,e,h1,fun j hj=>h2 j (by omega)⟩
 have hnp:(0:Int)<(n:Int):=by omega
 have hn0:0<n:=hn1
 go_cut [5] (fun v5 wc=>∃cb,v5=.pointer (some ⟨cb,0,none⟩)/\Hid (Kept W0 wc/\W0.heap.size<=cb/\RowL 110 wc cb [.string s0,.slice a1 n1 k1,.string s1,.int .i64 0,.int .i64 0,.int .i64 0,.slice none 0 0,.slice none 0 0]))
 case first=>
  have sS:=hid' (fun (V:World) (K:Kept W0 V)=>And.intro ((Below.cell (HB.out.1.trans K) (p:=⟨b,off,none⟩) ck.out.1).trans (show w.cell? ⟨b,off,none⟩=some (.string s0) by rw[HS0.out];exact ck.out.2 0 (by omega))) (And.intro ((HB.out.2.1.kept K).cell 0 (.slice a1 n1 k1)) ((HB.out.2.1.kept K).cell 1 (.string s1))))
  have KT:Kept W0 W0.drew:=(Kept.refl _).drew
  refine wp_region_held_drew (S:=fun w'=>w'.cell? ⟨b,off,none⟩=some (.string s0)/\w'.cell? ⟨q0,0,none⟩=some (.slice a1 n1 k1)/\w'.cell? ⟨q0,1,none⟩=some (.string s1)) (by kernel_rfl) (sS.out _ KT) (fun hHeld=>?_)
  generalize W0.drew=Wd at KT hHeld ⊢
  refine tk 0 hHeld ?_
  refine tk 1 hHeld ?_
  refine tk 2 hHeld ?_
  refine tk 4 hHeld ?_
  refine tk 5 hHeld ?_
  refine tk 6 hHeld ?_
  refine tk 7 hHeld ?_
  refine wpAnyH_ready (rs:=[3,9]) (by kernel_rfl) (by simp) ?_
  refine AllReadyH.cons rfl (fun K hK=>?_) (AllReadyH.cons rfl (fun K hK=>?_) AllReadyH.nil)
  ·go_simp
   refine(anew_any s0 _).mono ?_
   rintro e w2 ⟨hk,rfl⟩
   have KT:=KT.trans hk
   refine hK.out _ _ (sS.out _ KT) (fun hHeld=>?_)
   clear hK K hk
   refine tk 8 hHeld ?_
   refine rdy 9 fun K hK=>?_
   go_simp
   refine hK.out _ _ (sS.out _ (KT.alloc _)) (fun hHeld=>?_)
   clear hK K
   have hN:=RowL.alloc 110 w2 [.string ⟨#[]⟩,.slice none 0 0,.string ⟨#[]⟩,.int .i64 0,.int .i64 0,.int .i64 0,.slice none 0 0,.slice none 0 0]
   have KT2:=KT.alloc (.cells #[.string ⟨#[]⟩,.slice none 0 0,.string ⟨#[]⟩,.int .i64 0,.int .i64 0,.int .i64 0,.slice none 0 0,.slice none 0 0] 110)
   have hle:=KT.size
   generalize w2.alloc (.cells #[.string ⟨#[]⟩,.slice none 0 0,.string ⟨#[]⟩,.int .i64 0,.int .i64 0,.int .i64 0,.slice none 0 0,.slice none 0 0] 110)=W2 at hN KT2 hHeld ⊢
   obtain⟨cb,hcb⟩:∃q,q=w2.heap.size:=⟨_,rfl⟩
   rw[<-hcb]at hN hle ⊢
   clear hcb KT
   have f0:=hN.cell 0 (.string ⟨#[]⟩)
   have f1:=hN.cell 1 (.slice none 0 0)
   have f2:=hN.cell 2 (.string ⟨#[]⟩)
   have f3:=hN.cell 3 (.int .i64 0)
   have f4:=hN.cell 4 (.int .i64 0)
   have f5:=hN.cell 5 (.int .i64 0)
   have f6:=hN.cell 6 (.slice none 0 0)
   have f7:=hN.cell 7 (.slice none 0 0)
   have z:=hN.fz
   have HN:=hid' (And.intro KT2 (And.intro hle (((((((((hN.set 0 (.string s0)).set 1 (.slice a1 n1 k1)).set 2 (.string s1)).set 3 (.int .i64 0)).set 4 (.int .i64 0)).set 5 (.int .i64 0)).set 6 (.slice none 0 0)).set 7 (.slice none 0 0)))))
   have HNc:=hid' (sS.out _ (Kept.set8 KT2 hle (.string s0) (.slice a1 n1 k1) (.string s1) (.int .i64 0) (.int .i64 0) (.int .i64 0) (.slice none 0 0) (.slice none 0 0)))
   clear hN
   refine rdy 10 fun K hK=>?_
   go_simp
   refine hK.out _ _ HNc.out (fun hHeld=>?_)
   clear hK K f0 f1 f2 f3 f4 f5 f6 f7 z
   refine dn ?_
   go_wp2_with fail
   go_meet
   case rel=>exact⟨cb,rfl,Kept.set8 HN.out.1 HN.out.2.1 _ _ _ _ _ _ _ _,HN.out.2.1,HN.out.2.2⟩
  ·go_simp
   refine hK.out _ _ (sS.out _ (KT.alloc _)) (fun hHeld=>?_)
   clear hK K
   have hN:=RowL.alloc 110 Wd [.string ⟨#[]⟩,.slice none 0 0,.string ⟨#[]⟩,.int .i64 0,.int .i64 0,.int .i64 0,.slice none 0 0,.slice none 0 0]
   have hle:=KT.size
   have KT2:=KT.alloc (.cells #[.string ⟨#[]⟩,.slice none 0 0,.string ⟨#[]⟩,.int .i64 0,.int .i64 0,.int .i64 0,.slice none 0 0,.slice none 0 0] 110)
   generalize Wd.alloc (.cells #[.string ⟨#[]⟩,.slice none 0 0,.string ⟨#[]⟩,.int .i64 0,.int .i64 0,.int .i64 0,.slice none 0 0,.slice none 0 0] 110)=W1 at hN KT2 hHeld ⊢
   obtain⟨cb,hcb⟩:∃q,q=Wd.heap.size:=⟨_,rfl⟩
   rw[<-hcb]at hN hle ⊢
   clear hcb KT
   refine rdy 3 fun K hK=>?_
   go_simp
   refine(anew_any s0 _).mono ?_
   rintro e W2 ⟨hk,rfl⟩
   have KT2:=KT2.trans hk
   have hN:=hN.kept hk
   refine hK.out _ _ (sS.out _ KT2) (fun hHeld=>?_)
   clear hK K hk
   refine tk 8 hHeld ?_
   have f0:=hN.cell 0 (.string ⟨#[]⟩)
   have f1:=hN.cell 1 (.slice none 0 0)
   have f2:=hN.cell 2 (.string ⟨#[]⟩)
   have f3:=hN.cell 3 (.int .i64 0)
   have f4:=hN.cell 4 (.int .i64 0)
   have f5:=hN.cell 5 (.int .i64 0)
   have f6:=hN.cell 6 (.slice none 0 0)
   have f7:=hN.cell 7 (.slice none 0 0)
   have z:=hN.fz
   have HN:=hid' (And.intro KT2 (And.intro hle (((((((((hN.set 0 (.string s0)).set 1 (.slice a1 n1 k1)).set 2 (.string s1)).set 3 (.int .i64 0)).set 4 (.int .i64 0)).set 5 (.int .i64 0)).set 6 (.slice none 0 0)).set 7 (.slice none 0 0)))))
   have HNc:=hid' (sS.out _ (Kept.set8 KT2 hle (.string s0) (.slice a1 n1 k1) (.string s1) (.int .i64 0) (.int .i64 0) (.int .i64 0) (.slice none 0 0) (.slice none 0 0)))
   clear hN
   refine rdy 10 fun K hK=>?_
   go_simp
   refine hK.out _ _ HNc.out (fun hHeld=>?_)
   clear hK K f0 f1 f2 f3 f4 f5 f6 f7 z
   refine dn ?_
   go_wp2_with fail
   go_meet
   case rel=>exact⟨cb,rfl,Kept.set8 HN.out.1 HN.out.2.1 _ _ _ _ _ _ _ _,HN.out.2.1,HN.out.2.2⟩
 case rest=>
  obtain⟨cb,rfl,HC⟩:=hcut
  have hs0:0<s0.size:=by rw[HS0.out,bs_size];exact HS.out.2.2.1
  have hs0':(0:Int)<(s0.size:Int):=by omega
  have HQ:=hid' (show s0[0]=headC ws from head_of hs0 HS0.out)
  have c0:=HC.out.2.2.cell 0 (.string s0)
  have c1:=HC.out.2.2.cell 1 (.slice a1 n1 k1)
  have c2:=HC.out.2.2.cell 2 (.string s1)
  have c3:=HC.out.2.2.cell 3 (.int .i64 0)
  have c4:=HC.out.2.2.cell 4 (.int .i64 0)
  have c5:=HC.out.2.2.cell 5 (.int .i64 0)
  have c6:=HC.out.2.2.cell 6 (.slice none 0 0)
  have c7:=HC.out.2.2.cell 7 (.slice none 0 0)
  have zc:=HC.out.2.2.fz
  have hD:=HB.out.2.2.1.kept HC.out.1
  have d0:=hD.cell 0 (.string ⟨#[]⟩)
  have d1:=hD.cell 1 (.slice none 0 0)
  have d2:=hD.cell 2 (.string ⟨#[]⟩)
  have d3:=hD.cell 3 (.int .i64 0)
  have d4:=hD.cell 4 (.int .i64 0)
  have d5:=hD.cell 5 (.int .i64 0)
  have d6:=hD.cell 6 (.slice none 0 0)
  have d7:=hD.cell 7 (.slice none 0 0)
  have zd:=hD.fz
  have hP:=HB.out.2.1.kept HC.out.1
  have p2:=hP.cell 2 (.slice a2 n2 k2)
  have p3:=hP.cell 3 (.slice a3 n3 k3)
  have hne:¬q1=cb:=by have h1:=HB.out.2.2.1.lt;have h2:=HC.out.2.1;omega
  have hne':¬cb=q1:=fun e=>hne e.symm
  have HKw:=hid' (And.intro (HB.out.1.trans HC.out.1) (And.intro (Nat.le_trans HB.out.1.size HC.out.2.1) HB.out.2.2.2))
  clear hD hP
  go_wp2_with fail
  refine(among_is s0[0] ⟨#[118,105]⟩ [118,105] _ rfl).mono ?_
  rintro e w2 ⟨rfl,rfl⟩
  rw[show decide (s0[0]∈([118,105]:List UInt8))=waveC s0[0] from rfl]
  by_cases hw:waveC s0[0]=true
  ·rw[hw]
   have HE:=hid' (show waveC (headC ws)=true by rw[<-HQ.out];exact hw)
   have h4:4<=n:=HS.out.2.2.2.1 HE.out
   have h4':(3:Int)<(n:Int):=by omega
   have hn4:3<n:=h4
   obtain⟨s3,hs3⟩:∃s,s=bs (ws.getD 3 []):=⟨_,rfl⟩
   have HK3:=hid' (show wkindL s3.toList=wkindL (ws.getD 3 []) by rw[hs3,ByteArray.toList_eq,bs_list])
   have HS3:=hid' hs3
   clear hs3
   have sS:=hid' (fun (V:World) (K:Kept W0 V)=>And.intro (show V.cell? ⟨b,off+3,none⟩=some (.string s3) from(Below.cell (HB.out.1.trans K) (p:=⟨b,off+3,none⟩) ck.out.1).trans (by have:=ck.out.2 3 h4;rw[HS3.out];exact this)) (And.intro ((HB.out.2.1.kept K).cell 2 (.slice a2 n2 k2)) ((HB.out.2.1.kept K).cell 3 (.slice a3 n3 k3))))
   have KT:Kept W0 w2.drew:=HC.out.1.drew
   have hC:RowL 110 w2.drew cb [.string s0,.slice a1 n1 k1,.string s1,.int .i64 0,.int .i64 0,.int .i64 0,.slice none 0 0,.slice none 0 0]:=World.rowIs.drew HC.out.2.2
   clear c0 c1 c2 c3 c4 c5 c6 c7 d0 d1 d2 d3 d4 d5 d6 d7 zc zd p2 p3
   go_upto_region 3 with fail
   refine wp_region_held_drew (S:=fun w'=>w'.cell? ⟨b,off+3,none⟩=some (.string s3)/\w'.cell? ⟨q0,2,none⟩=some (.slice a2 n2 k2)/\w'.cell? ⟨q0,3,none⟩=some (.slice a3 n3 k3)) (by kernel_rfl) (sS.out _ KT) (fun hHeld=>?_)
   generalize w2.drew=Wd at KT hC hHeld ⊢
   refine tk 0 hHeld ?_
   refine tk 1 hHeld ?_
   refine tk 2 hHeld ?_
   refine tk 4 hHeld ?_
   refine tk 5 hHeld ?_
   refine tk 6 hHeld ?_
   refine tk 7 hHeld ?_
   refine rdy 3 fun K hK=>?_
   go_simp
   refine(waveKind_any s3 _).mono ?_
   rintro e w3 ⟨rfl,rfl⟩
   refine hK.out _ _ (sS.out _ KT) (fun hHeld=>?_)
   clear hK K
   generalize hkd:wkindL s3.toList=kd
   refine tk 8 hHeld ?_
   refine tk 9 hHeld ?_
   have f5:=hC.cell 5 (.int .i64 0)
   have f6:=hC.cell 6 (.slice none 0 0)
   have f7:=hC.cell 7 (.slice none 0 0)
   have z:=hC.fz
   have HN:=hid' (((hC.set 5 (.int .i64 kd)).set 6 (.slice a2 n2 k2)).set 7 (.slice a3 n3 k3))
   have HKN:=hid' (Kept.put3' KT HC.out.2.1 5 6 7 (.int .i64 kd) (.slice a2 n2 k2) (.slice a3 n3 k3))
   have HNc:=hid' (sS.out _ HKN.out)
   clear hC KT
   refine rdy 10 fun K hK=>?_
   go_simp
   refine hK.out _ _ HNc.out (fun hHeld=>?_)
   clear hK K f5 f6 f7 z
   refine dn ?_
   have hD:=HB.out.2.2.1.kept HKN.out
   have hC:=HN.out
   generalize ((w3.setCell ⟨cb,5,none⟩ (.int .i64 kd)).setCell ⟨cb,6,none⟩ (.slice a2 n2 k2)).setCell ⟨cb,7,none⟩ (.slice a3 n3 k3)=W4 at hD hC HKN HN HNc hHeld ⊢
   have c0:=hC.cell 0 (.string s0)
   have c1:=hC.cell 1 (.slice a1 n1 k1)
   have c2:=hC.cell 2 (.string s1)
   have c3:=hC.cell 3 (.int .i64 0)
   have c4:=hC.cell 4 (.int .i64 0)
   have c5:=hC.cell 5 (.int .i64 (kd))
   have c6:=hC.cell 6 (.slice a2 n2 k2)
   have c7:=hC.cell 7 (.slice a3 n3 k3)
   have d0:=hD.cell 0 (.string ⟨#[]⟩)
   have d1:=hD.cell 1 (.slice none 0 0)
   have d2:=hD.cell 2 (.string ⟨#[]⟩)
   have d3:=hD.cell 3 (.int .i64 0)
   have d4:=hD.cell 4 (.int .i64 0)
   have d5:=hD.cell 5 (.int .i64 0)
   have d6:=hD.cell 6 (.slice none 0 0)
   have d7:=hD.cell 7 (.slice none 0 0)
   have zd:=hD.fz
   have HKw:=hid' (HB.out.1.trans HKN.out)
   have HW1:=hid' HB.out.2.2.2
   clear hD hC
   go_wp2_with fail
   refine bodyPost_ret (v:=.agg #[.string s0,.slice a1 n1 k1,.string s1,.int .i64 0,.int .i64 0,.int .i64 kd,.slice a2 n2 k2,.slice a3 n3 k3]) (by simp[results,Tryz.results161,go_sem,d0,d1,d2,d3,d4,d5,d6,d7]) rfl ⟨?_,?_⟩
   ·exact Kept.set8 HKw.out HW1.out _ _ _ _ _ _ _ _
   ·rw[HRR.out.1];unfold cardV;rw[HE.out,<-HRR.out.2.1,<-HRR.out.2.2,<-HK3.out,hkd];rfl
  ·have hw:waveC s0[0]=false:=by simpa using hw
   rw[hw]
   have HE:=hid' (show waveC (headC ws)=false by rw[<-HQ.out];exact hw)
   go_wp2_with fail
   refine(among_is s0[0] ⟨#[114,99,108,101,103,102,104,116]⟩ [114,99,108,101,103,102,104,116] _ rfl).mono ?_
   rintro e w3 ⟨rfl,rfl⟩
   rw[show decide (s0[0]∈([114,99,108,101,103,102,104,116]:List UInt8))=valueC s0[0] from rfl]
   by_cases hv:valueC s0[0]=true
   ·rw[hv]
    have HE2:=hid' (show valueC (headC ws)=true by rw[<-HQ.out];exact hv)
    have hl:=HS.out.2.2.2.2.1 HE2.out
    obtain⟨ao',c',e',hx'⟩:=HS.out.2.2.2.2.2.kept HKw.out.1
    simp only[Value.slice.injEq]at e'
    obtain⟨rfl,hn2,rfl⟩:=e'
    obtain⟨b2,o2,rfl,hb2,hc2⟩:=hx' hl
    obtain⟨g0,g1⟩:=hc2 0 hl
    rw[Nat.zero_mul,Nat.add_zero]at g0 g1
    obtain⟨v0,hv0⟩:∃v,v=p.nums.getD 0 (0,0):=⟨_,rfl⟩
    rw[<-hv0]at g0 g1
    have HV0:=hid' hv0
    clear hv0
    have hn20:0<n2:=by omega
    have hn20':(0:Int)<(n2:Int):=by omega
    clear hc2 hx' hn2
    go_wp2_with fail
    refine bodyPost_ret (v:=.agg #[.string s0,.slice a1 n1 k1,.string s1,.int .i64 v0.1,.int .i64 v0.2,.int .i64 0,.slice none 0 0,.slice none 0 0]) (by simp[results,Tryz.results161,go_sem,d0,d1,d2,d3,d4,d5,d6,d7]) rfl ⟨?_,?_⟩
    ·exact Kept.set8 ((HKw.out.1.setCell (p:=⟨cb,3,none⟩) HKw.out.2.1 _).setCell (p:=⟨cb,4,none⟩) HKw.out.2.1 _) HKw.out.2.2 _ _ _ _ _ _ _ _
    ·rw[HRR.out.1];unfold cardV;rw[HE.out,HE2.out,<-HRR.out.2.1,<-HRR.out.2.2,<-HV0.out];rfl
   ·have hv:valueC s0[0]=false:=by simpa using hv
    have HE2:=hid' (show valueC (headC ws)=false by rw[<-HQ.out];exact hv)
    rw[hv]
    go_wp2_with fail
    refine bodyPost_ret (v:=.agg #[.string s0,.slice a1 n1 k1,.string s1,.int .i64 0,.int .i64 0,.int .i64 0,.slice none 0 0,.slice none 0 0]) (by simp[results,Tryz.results161,go_sem,d0,d1,d2,d3,d4,d5,d6,d7]) rfl ⟨?_,?_⟩
    ·exact Kept.set8 HKw.out.1 HKw.out.2.2 _ _ _ _ _ _ _ _
    ·rw[HRR.out.1];unfold cardV;rw[HE.out,HE2.out,<-HRR.out.2.1,<-HRR.out.2.2];rfl
open Q (parseOf)
def plainC (n a b x:List UInt8):Except Int Cd :=
 if okName a=true/\okName b=true then (if (parseOf x).2.2=0 then .ok ⟨n,[a,b],[],(0,0),1,[((parseOf x).1,(parseOf x).2.1)],[]⟩ else .error (parseOf x).2.2) else .error 71
theorem okW_dc {x:List UInt8}(h:(parseOf x).2.2=0):okW 1 [((parseOf x).1,(parseOf x).2.1)] []=true:=by
 rcases Q.parse_ok x with e|e|⟨m,y,e,ho⟩
 ·rw[e]at h;cases h
 ·rw[e]at h;cases h
 ·rw[e]
  show (_&&((Q.okN m y&&true)&&true)&&true)=true
  rw[ho]
  rfl
theorem parts_dc (sh:List UInt8)(n a b x:List UInt8)(t:List (List UInt8))(ht:t=[]/\sh=[46,110,110,120]∨t=[[100,99]]/\sh=[46,110,110,46,120]) :
  partsOf (n::a::b::(t++[x])) sh=if okName a=true/\okName b=true then (if (parseOf x).2.2=0 then .ok ⟨[a,b],[],[((parseOf x).1,(parseOf x).2.1)],[]⟩ else .error (parseOf x).2.2) else .error 71:=by
 rcases ht with ⟨rfl,rfl⟩|⟨rfl,rfl⟩ <;>
 ·by_cases ha:okName a=true
  ·by_cases hb:okName b=true
   ·by_cases hx:(parseOf x).2.2=0
    ·simp[partsOf,nmAll,nmStep,nuAll,nuStep,ha,hb,hx,Pt.zero]
    ·simp[partsOf,nmAll,nmStep,nuAll,nuStep,ha,hb,hx,Pt.zero]
   ·simp[partsOf,nmAll,nmStep,ha,hb,Pt.zero]
  ·simp[partsOf,nmAll,nmStep,ha,Pt.zero]
theorem read_plain (n a b x:List UInt8)(hn:devB n=true)(hc:n.getD 0 0=118∨n.getD 0 0=105)(h1:x≠[100,99])(h2:x≠[112,117,108,115,101])(h3:x≠[112,119,108])(h4:x≠[116,97,98,108,101]) :
  readC [n,a,b,x]=plainC n a b x:=by
 have hh:headC [n,a,b,x]=n.getD 0 0:=rfl
 have hw:waveC (n.getD 0 0)=true:=by rcases hc with e|e <;> rw[e] <;> decide
 have hz:zeroC (n.getD 0 0)=false:=by rcases hc with e|e <;> rw[e] <;> decide
 have hs:cshape (n.getD 0 0) [n,a,b,x]=[46,110,110,120]:=by
  unfold cshape
  rw[if_pos hc]
  simp[wshape,h1,h2,h3,h4]
 have hk:wkindL x=1:=by unfold wkindL;rw[if_neg h2,if_neg h3,if_neg h4]
 have hp:=parts_dc [46,110,110,120] n a b x [] (.inl ⟨rfl,rfl⟩)
 simp only[List.nil_append]at hp
 unfold readC plainC
 rw[if_neg (by simp[hn]),hh,hs,hp]
 by_cases hab:okName a=true/\okName b=true
 ·rw[if_pos hab,if_pos hab]
  by_cases hx:(parseOf x).2.2=0
  ·rw[if_pos hx,if_pos hx]
   have e:cardS [n,a,b,x] ⟨[a,b],[],[((parseOf x).1,(parseOf x).2.1)],[]⟩=⟨n,[a,b],[],(0,0),1,[((parseOf x).1,(parseOf x).2.1)],[]⟩:=by
    unfold cardS
    rw[if_pos (by rw[hh];exact hw),<-hk]
    rfl
   show endC (cardS [n,a,b,x] ⟨[a,b],[],[((parseOf x).1,(parseOf x).2.1)],[]⟩)=_
   rw[e]
   unfold endC
   rw[if_neg (fun h=>by have h1:=h.1;rw[show (⟨n,[a,b],[],(0,0),1,[((parseOf x).1,(parseOf x).2.1)],[]⟩:Cd).name=n from rfl,hz]at h1;cases h1),if_neg (fun h=>by have h2:=h.2;rw[show okW (⟨n,[a,b],[],(0,0),1,[((parseOf x).1,(parseOf x).2.1)],[]⟩:Cd).kind (⟨n,[a,b],[],(0,0),1,[((parseOf x).1,(parseOf x).2.1)],[]⟩:Cd).vals (⟨n,[a,b],[],(0,0),1,[((parseOf x).1,(parseOf x).2.1)],[]⟩:Cd).steps=true from okW_dc hx]at h2;cases h2)]
  ·rw[if_neg hx,if_neg hx]
 ·rw[if_neg hab,if_neg hab]
open Q (hid' parseOf Lett ErrV Tab okN textOf)
open X (bs OwnS RS strs bs_list bs_size)
theorem ctext_any (m x:Int)(w:World)(hl:Lett w)(ht:Tab w) :
  Calls Tryz.prog 130 #[.agg #[.int .i64 m,.int .i64 x]] w fun e w'=>Kept w w'/\e=.returned (.string (bs (tx (m,x)))):=by
 have hc:=fun V (K:Kept w V)=>Q.text_any m x V (hl.kept K) (ht.kept K)
 have HT:=hid' (show ∀e,Q.TextIs e m x->∃z,e=.returned (.tuple #[.string (bs (tx (m,x))),.int .i64 z]) by
  rintro e (⟨h1,rfl⟩|⟨h1,t,ht,rfl⟩)
  ·exact⟨30,by unfold tx;rw[if_neg (by rw[h1];decide)];rfl⟩
  ·exact⟨0,by unfold tx;rw[if_pos h1,<-ht];rfl⟩)
 generalize bs (tx (m,x))=r at HT ⊢
 clear hl ht
 go_enter Tryz.func130,Tryz.ntmps130
 go_wp2_with fail
 refine(hc _ (by first|exact Kept.refl _|exact(Kept.refl _).alloc _)).mono ?_
 rintro e w1 ⟨hk,he⟩
 obtain⟨z,rfl⟩:=HT.out e he
 have HK:=hid' hk
 clear hk hc he
 go_wp2_with fail
 go_ret
 exact⟨by first|exact HK.out|exact((Kept.refl _).alloc _).trans HK.out,rfl⟩
theorem rs_len {w:World}{ao:Option Addr}{n c:Nat}{l:List (List UInt8)}(h:RS w (.slice ao n c) l):n=l.length:=by
 obtain⟨_,_,e,_⟩:=h
 simp at e;exact e.2.1
theorem eq_strs (a1 a2:Option Addr)(n m c c':Nat)(x y:List (List UInt8))(w:World)(h1:RS w (.slice a1 n c) x)(h2:RS w (.slice a2 m c') y)(hl:n<=9223372036854775807) :
  Calls Tryz.prog 163 #[.slice a1 n c,.slice a2 m c'] w fun e w'=>Kept w w'/\e=.returned (.bool (decide (x=y))):=by
 have hn:n=x.length:=rs_len h1
 have hm:m=y.length:=rs_len h2
 have HS:=hid' (And.intro h1 h2)
 have HN:=hid' (And.intro hn hm)
 by_cases hne:n=m
 ·subst hne
  clear h1 h2 hn hm
  go_enter Tryz.func163,Tryz.ntmps163
  go_wp2_with fail
  go_loopw [13] (fun vi wr=>∃k:Nat,k<=n/\vi=.int .i64 (k:Int)/\Hid (Kept w wr/\∀j,j<k->x.getD j []=y.getD j [])) (fun vi _=>n-(intOf vi).toNat)
  case atStart=>exact⟨0,Nat.zero_le _,rfl,Kept.refl _,fun j hj=>absurd hj (Nat.not_lt_zero _)⟩
  case round=>
   obtain⟨k,hk,rfl,H⟩:=hrel
   by_cases hlt:k<n
   ·have hi:(k:Int)<(n:Int):=by omega
    obtain⟨a1',c1',e1,hx1⟩:=HS.out.1.kept H.out.1
    obtain⟨a2',c2',e2,hx2⟩:=HS.out.2.kept H.out.1
    simp only[Value.slice.injEq]at e1 e2
    obtain⟨rfl,hn1,rfl⟩:=e1
    obtain⟨rfl,hn2,rfl⟩:=e2
    obtain⟨b1,o1,rfl,hb1,hc1⟩:=hx1 (by omega)
    obtain⟨b2,o2,rfl,hb2,hc2⟩:=hx2 (by omega)
    have q1:=hc1 k (by omega)
    have q2:=hc2 k (by omega)
    clear hx1 hx2 hc1 hc2 hn1 hn2
    obtain⟨u,hu⟩:∃u,u=x.getD k []:=⟨_,rfl⟩
    obtain⟨v,hv⟩:∃v,v=y.getD k []:=⟨_,rfl⟩
    rw[<-hu]at q1
    rw[<-hv]at q2
    have HX:=hid' (And.intro hu hv)
    clear hu hv
    have e1:(bs u).toList=u:=by rw[ByteArray.toList_eq,bs_list]
    have e2:(bs v).toList=v:=by rw[ByteArray.toList_eq,bs_list]
    generalize bs u=t1 at q1 e1
    generalize bs v=t2 at q2 e2
    by_cases huv:u=v
    ·have HXY:=hid' huv
     have hq:t1.toList=t2.toList:=by rw[e1,e2,huv]
     have hq':(t1.toList == t2.toList)=true:=by rw[hq];simp
     clear e1 e2 hq huv
     go_wp2_with fail
     go_quiet (fail)
     go_wp2_with fail
     go_roundw
     case rel=>
      refine⟨k+1,by omega,by go_num,H.out.1.drewN _,fun j hj=>?_⟩
      by_cases e:j=k
      ·subst e;rw[<-HX.out.1,<-HX.out.2];exact HXY.out
      ·exact H.out.2 j (by omega)
     case measure=>show n-((k:Int)+1).toNat<n-(k:Int).toNat;omega
    ·have HD:=hid' (show decide (x=y)=false from decide_eq_false (fun e=>huv (by rw[HX.out.1,HX.out.2,e])))
     have hq:¬t1.toList=t2.toList:=by rw[e1,e2];exact huv
     have hq':(t1.toList == t2.toList)=false:=by simpa using hq
     clear e1 e2 hq huv
     go_wp2_with fail
     go_quiet (fail)
     go_wp2_with fail
     go_ret
     exact⟨H.out.1.drewN _,by rw[HD.out];rfl⟩
   ·have hi:¬(k:Int)<(n:Int):=by omega
    have HD:=hid' (show decide (x=y)=true from decide_eq_true (X.eq_of_getD [] (by rw[<-HN.out.1,<-HN.out.2]) (fun j hj=>H.out.2 j (by rw[<-HN.out.1]at hj;omega))))
    go_wp2_with fail
    go_ret
    exact⟨H.out.1,by rw[HD.out];rfl⟩
 ·have hz:¬(n:Int)=(m:Int):=by omega
  have hz':((n:Int) == (m:Int))=false:=by simpa using hz
  have HD:=hid' (show decide (x=y)=false from decide_eq_false (fun e=>hne (by rw[hn,hm,e])))
  clear h1 h2 hn hm
  go_enter Tryz.func163,Tryz.ntmps163
  go_wp2_with fail
  go_ret
  exact⟨Kept.refl _,by rw[HD.out];rfl⟩
theorem eq_nums (a1 a2:Option Addr)(n m c c':Nat)(x y:List (Int×Int))(w:World)(h1:NSl w (.slice a1 n c) x)(h2:NSl w (.slice a2 m c') y)(hl:n<=9223372036854775807) :
  Calls Tryz.prog 164 #[.slice a1 n c,.slice a2 m c'] w fun e w'=>Kept w w'/\e=.returned (.bool (decide (x=y))):=by
 have hn:n=x.length:=NSl.len h1
 have hm:m=y.length:=NSl.len h2
 have HS:=hid' (And.intro h1 h2)
 have HN:=hid' (And.intro hn hm)
 by_cases hne:n=m
 ·subst hne
  clear h1 h2 hn hm
  go_enter Tryz.func164,Tryz.ntmps164
  go_wp2_with fail
  go_loopw [13] (fun vi wr=>∃k:Nat,k<=n/\vi=.int .i64 (k:Int)/\Hid (Kept w wr/\∀j,j<k->x.getD j (0,0)=y.getD j (0,0))) (fun vi _=>n-(intOf vi).toNat)
  case atStart=>exact⟨0,Nat.zero_le _,rfl,Kept.refl _,fun j hj=>absurd hj (Nat.not_lt_zero _)⟩
  case round=>
   obtain⟨k,hk,rfl,H⟩:=hrel
   by_cases hlt:k<n
   ·have hi:(k:Int)<(n:Int):=by omega
    obtain⟨a1',c1',e1,hx1⟩:=HS.out.1.kept H.out.1
    obtain⟨a2',c2',e2,hx2⟩:=HS.out.2.kept H.out.1
    simp only[Value.slice.injEq]at e1 e2
    obtain⟨rfl,hn1,rfl⟩:=e1
    obtain⟨rfl,hn2,rfl⟩:=e2
    obtain⟨b1,o1,rfl,hb1,hc1⟩:=hx1 (by omega)
    obtain⟨b2,o2,rfl,hb2,hc2⟩:=hx2 (by omega)
    have q1:=hc1 k (by omega)
    have q2:=hc2 k (by omega)
    clear hx1 hx2 hc1 hc2 hn1 hn2
    obtain⟨u,hu⟩:∃u,u=x.getD k (0,0):=⟨_,rfl⟩
    obtain⟨v,hv⟩:∃v,v=y.getD k (0,0):=⟨_,rfl⟩
    rw[<-hu]at q1
    rw[<-hv]at q2
    have HX:=hid' (And.intro hu hv)
    clear hu hv
    obtain⟨q1,q1'⟩:=q1
    obtain⟨q2,q2'⟩:=q2
    obtain⟨u0,u1⟩:=u
    obtain⟨v0,v1⟩:=v
    simp only at q1 q1' q2 q2'
    by_cases huv:(u0,u1)=(v0,v1)
    ·have HXY:=hid' huv
     simp only[Prod.mk.injEq]at huv
     obtain⟨rfl,rfl⟩:=huv
     go_wp2_with fail
     go_quiet (fail)
     go_wp2_with fail
     go_roundw
     case rel=>
      refine⟨k+1,by omega,by go_num,H.out.1.drewN _,fun j hj=>?_⟩
      by_cases e:j=k
      ·subst e;rw[<-HX.out.1,<-HX.out.2]
      ·exact H.out.2 j (by omega)
     case measure=>show n-((k:Int)+1).toNat<n-(k:Int).toNat;omega
    ·have HD:=hid' (show decide (x=y)=false from decide_eq_false (fun e=>huv (by rw[HX.out.1,HX.out.2,e])))
     by_cases h0:u0=v0
     ·subst h0
      have h1:¬u1=v1:=fun e=>huv (by rw[e])
      have h1':(u1 == v1)=false:=by simpa using h1
      clear huv
      go_wp2_with fail
      go_quiet (fail)
      go_wp2_with fail
      go_ret
      exact⟨H.out.1.drewN _,by rw[HD.out];rfl⟩
     ·have h0':(u0 == v0)=false:=by simpa using h0
      clear huv
      go_wp2_with fail
      go_quiet (fail)
      go_wp2_with fail
      go_ret
      exact⟨H.out.1.drewN _,by rw[HD.out];rfl⟩
   ·have hi:¬(k:Int)<(n:Int):=by omega
    have HD:=hid' (show decide (x=y)=true from decide_eq_true (X.eq_of_getD (0,0) (by rw[<-HN.out.1,<-HN.out.2]) (fun j hj=>H.out.2 j (by rw[<-HN.out.1]at hj;omega))))
    go_wp2_with fail
    go_ret
    exact⟨H.out.1,by rw[HD.out];rfl⟩
 ·have hz:¬(n:Int)=(m:Int):=by omega
  have hz':((n:Int) == (m:Int))=false:=by simpa using hz
  have HD:=hid' (show decide (x=y)=false from decide_eq_false (fun e=>hne (by rw[hn,hm,e])))
  clear h1 h2 hn hm
  go_enter Tryz.func164,Tryz.ntmps164
  go_wp2_with fail
  go_ret
  exact⟨Kept.refl _,by rw[HD.out];rfl⟩
theorem eq_ints (a1 a2:Option Addr)(n m c c':Nat)(x y:List Int)(w:World)(h1:ISl w (.slice a1 n c) x)(h2:ISl w (.slice a2 m c') y)(hl:n<=9223372036854775807) :
  Calls Tryz.prog 165 #[.slice a1 n c,.slice a2 m c'] w fun e w'=>Kept w w'/\e=.returned (.bool (decide (x=y))):=by
 have hn:n=x.length:=ISl.len h1
 have hm:m=y.length:=ISl.len h2
 have HS:=hid' (And.intro h1 h2)
 have HN:=hid' (And.intro hn hm)
 by_cases hne:n=m
 ·subst hne
  clear h1 h2 hn hm
  go_enter Tryz.func165,Tryz.ntmps165
  go_wp2_with fail
  go_loopw [13] (fun vi wr=>∃k:Nat,k<=n/\vi=.int .i64 (k:Int)/\Hid (Kept w wr/\∀j,j<k->x.getD j 0=y.getD j 0)) (fun vi _=>n-(intOf vi).toNat)
  case atStart=>exact⟨0,Nat.zero_le _,rfl,Kept.refl _,fun j hj=>absurd hj (Nat.not_lt_zero _)⟩
  case round=>
   obtain⟨k,hk,rfl,H⟩:=hrel
   by_cases hlt:k<n
   ·have hi:(k:Int)<(n:Int):=by omega
    obtain⟨a1',c1',e1,hx1⟩:=HS.out.1.kept H.out.1
    obtain⟨a2',c2',e2,hx2⟩:=HS.out.2.kept H.out.1
    simp only[Value.slice.injEq]at e1 e2
    obtain⟨rfl,hn1,rfl⟩:=e1
    obtain⟨rfl,hn2,rfl⟩:=e2
    obtain⟨b1,o1,rfl,hb1,hc1⟩:=hx1 (by omega)
    obtain⟨b2,o2,rfl,hb2,hc2⟩:=hx2 (by omega)
    have q1:=hc1 k (by omega)
    have q2:=hc2 k (by omega)
    clear hx1 hx2 hc1 hc2 hn1 hn2
    obtain⟨u,hu⟩:∃u,u=x.getD k 0:=⟨_,rfl⟩
    obtain⟨v,hv⟩:∃v,v=y.getD k 0:=⟨_,rfl⟩
    rw[<-hu]at q1
    rw[<-hv]at q2
    have HX:=hid' (And.intro hu hv)
    clear hu hv
    by_cases huv:u=v
    ·have HXY:=hid' huv
     subst huv
     go_wp2_with fail
     go_quiet (fail)
     go_wp2_with fail
     go_roundw
     case rel=>
      refine⟨k+1,by omega,by go_num,H.out.1.drewN _,fun j hj=>?_⟩
      by_cases e:j=k
      ·subst e;rw[<-HX.out.1,<-HX.out.2]
      ·exact H.out.2 j (by omega)
     case measure=>show n-((k:Int)+1).toNat<n-(k:Int).toNat;omega
    ·have HD:=hid' (show decide (x=y)=false from decide_eq_false (fun e=>huv (by rw[HX.out.1,HX.out.2,e])))
     have h0':(u == v)=false:=by simpa using huv
     go_wp2_with fail
     go_quiet (fail)
     go_wp2_with fail
     go_ret
     exact⟨H.out.1.drewN _,by rw[HD.out];rfl⟩
   ·have hi:¬(k:Int)<(n:Int):=by omega
    have HD:=hid' (show decide (x=y)=true from decide_eq_true (X.eq_of_getD 0 (by rw[<-HN.out.1,<-HN.out.2]) (fun j hj=>H.out.2 j (by rw[<-HN.out.1]at hj;omega))))
    go_wp2_with fail
    go_ret
    exact⟨H.out.1,by rw[HD.out];rfl⟩
 ·have hz:¬(n:Int)=(m:Int):=by omega
  have hz':((n:Int) == (m:Int))=false:=by simpa using hz
  have HD:=hid' (show decide (x=y)=false from decide_eq_false (fun e=>hne (by rw[hn,hm,e])))
  clear h1 h2 hn hm
  go_enter Tryz.func165,Tryz.ntmps165
  go_wp2_with fail
  go_ret
  exact⟨Kept.refl _,by rw[HD.out];rfl⟩
end V
end Go.Proofs.YtdjhmgmjiglcbaaGreatDoor
