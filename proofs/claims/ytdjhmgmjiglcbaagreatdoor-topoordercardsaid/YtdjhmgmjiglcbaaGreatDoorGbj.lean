/- Lemmas. -/
import Derived.Test.YtdjhmgmjiglcbaaGreatDoorGbg
import Derived.Test.YtdjhmgmjiglcbaaGreatDoorGbi
import Derived.Test.YtdjhmgmjiglcbaaGreatDoorGbf
import Derived.Test.YtdjhmgmjiglcbaaGreatDoorGar
import Derived.Test.YtdjhmgmjiglcbaaGreatDoorGbh
import Derived.Deep.Slices
set_option maxRecDepth 100000
set_option maxHeartbeats 16000000
namespace Go.Proofs.YtdjhmgmjiglcbaaGreatDoor
open Go.RowKit
namespace V
open Q (hid')
open X (RS OwnS strs)
theorem addr_add (b off j:Nat):(⟨b,off,none⟩:Addr).add j=⟨b,off+j,none⟩:=by
 unfold Addr.add
 by_cases hj0:j=0 <;> simp[hj0]
theorem isl_src {w:World}{ao:Option Addr}{n c:Nat}{l:List Int}(h:ISl w (.slice ao n c) l):0<n->∃ad,ao=some ad/\∀j u,(l.map (Value.int .i64))[j]?=some u->w.cell? (ad.add j)=some u:=by
 intro h0
 obtain⟨ao',c',hv,hx⟩:=h
 simp only[Value.slice.injEq]at hv
 obtain⟨rfl,rfl,rfl⟩:=hv
 obtain⟨b,off,rfl,hb,hc⟩:=hx h0
 refine⟨⟨b,off,none⟩,rfl,fun j u hj=>?_⟩
 have hl:j<l.length:=by
  have:=(List.getElem?_eq_some_iff.1 hj).1
  simpa using this
 rw[addr_add,hc j hl,<-hj,List.getElem?_map,List.getD_eq_getElem?_getD,List.getElem?_eq_getElem hl]
 rfl
theorem nsl_src {w:World}{ao:Option Addr}{n c:Nat}{l:List (Int×Int)}(h:NSl w (.slice ao n c) l):0<n->∃ad,ao=some ad/\∀j u,(ncs l)[j]?=some u->w.cell? (ad.add j)=some u:=by
 intro h0
 obtain⟨ao',c',hv,hx⟩:=h
 simp only[Value.slice.injEq]at hv
 obtain⟨rfl,rfl,rfl⟩:=hv
 obtain⟨b,off,rfl,hb,hc⟩:=hx h0
 refine⟨⟨b,off,none⟩,rfl,fun j u hj=>?_⟩
 have hl:j<l.length*2:=by
  have:=(List.getElem?_eq_some_iff.1 hj).1
  rwa [ncs_len]at this
 rw[addr_add]
 have h1:=hc (j/2) (by omega)
 have h2:=ncs_at l (j/2) (by omega)
 rcases Nat.mod_two_eq_zero_or_one j with hm|hm
 ·have e:j/2*2=j:=by omega
  rw[e]at h1 h2
  rw[h1.1,<-hj,h2.1]
 ·have e:j/2*2+1=j:=by omega
  rw[Nat.add_assoc,e]at h1
  rw[e]at h2
  rw[h1.2,<-hj,h2.2]
theorem wp_src {P:Program}{w:World}{o:Oper}{a:Act}{K:Act->World->Prop}{Q:Exit->Act->World->Prop}(s x:Operand)(t:TypeId)
  (ho:o.op=.call { callee:=.builtin .append,args:=#[s,x],argTypes:=#[t,t] })
  (base:Nat) (e:TypeId) (i:TypeInfo) (zv:Value) (size bytes:Nat) (ht:P.underlying t=some (.slice e)) (hi:P.info? e=some i) (hz:i.zero=some zv)
  (hsize:i.size=size) (hby:i.bytes=bytes) (hzs:zv.cells.size=size) (hsz:0<size)
  (g0:Nat) (hs:a.eval s=.slice (some ⟨g0,0,none⟩) 0 0) (hown:w.ownsRow base e size (.slice (some ⟨g0,0,none⟩) 0 0) 0 [])
  (ao:Option Addr) (m c:Nat) (news:List Value) (hx:a.eval x=.slice ao m c) (hl:news.length=m*size) (hnews:0<m->∃ad,ao=some ad/\∀j u,news[j]?=some u->w.cell? (ad.add j)=some u) (h1:∀u∈news,u.oneCell'=true)
  (h63:m<=maxLen) (hbytes:m*bytes<=140737488355328) (hbase:base<=w.heap.size)
  (h:∀g cap w',w'.ownsRow base e size (.slice (some ⟨g,0,none⟩) m cap) m news->w.grownBy w' (some g0)->K (a.put o.dst (.slice (some ⟨g,0,none⟩) m cap)) w'):Oper.wp P o a w K Q:=by
 by_cases hm:0<m
 ·obtain⟨ad,rfl,hn⟩:=hnews hm
  exact wp_append_lies w s x t ho base e i zv size bytes ht hi hz hsize hby hzs hsz _ 0 [] hs hown ad m c news hx hl hn h1 hm (by omega) (by rw[Nat.zero_add];exact hbytes) hbase _ rfl (fun g cap w' h2 h3 _ _=>by
   have:=h g cap w' (by simpa using h2) h3
   rw[Nat.zero_add]
   exact this)
 ·obtain rfl:m=0:=by omega
  have hn0:news=[]:=List.eq_nil_of_length_eq_zero (by simpa using hl)
  subst hn0
  have hr:(Builtin.append_ #[t,t] o.type #[.slice (some ⟨g0,0,none⟩) 0 0,.slice ao 0 c]).run P w=.ok (.slice (some ⟨g0,0,none⟩) 0 0) w:=by
   cases ao <;> simp[Builtin.append_,run_underlying ht,sizeOf,typeInfo,hi,Builtin.lenOf,Builtin.firstCells,loadCells,loadCellsFrom,storeCells]
  unfold Oper.wp execOp
  simp only[ho,resolve,invoke,builtin,Sem.run_bind,Sem.run_pure,Result.andThen_ok,List.map_toArray,List.map_cons,List.map_nil,hs,hx,hr]
  exact h g0 0 w hown ⟨rfl,rfl,rfl,Nat.le_refl _,fun _ _ _=>rfl⟩
structure DE.own (B:Nat) (w:World) (d:DE):Prop where
 nodes:OwnI B w (.slice d.an d.nodes.length d.cn) d.nodes
 wv:OwnN B w (.slice d.av d.wv.length d.cv) d.wv
 ws:OwnI B w (.slice d.ai d.ws.length d.ci) d.ws
 gs:OwnN B w (.slice d.a1 d.md.gs.length d.c1) d.md.gs
 vs:OwnN B w (.slice d.a2 d.md.vs.length d.c2) d.md.vs
theorem DE.own.ok {B:Nat}{w:World}{d:DE}(h:d.own B w):d.ok w:=⟨h.nodes.isl,h.wv.nsl,h.ws.isl,h.gs.nsl,h.vs.nsl⟩
def SameT (w w':World):Prop:=∀(b:Nat) (c:Array Value) (t:TypeId) (f:Nat×Nat),w.heap[b]?=some (Obj.cells c t f)->t=3∨t=25->w'.heap[b]?=w.heap[b]?
theorem own_same {w w':World}{B:Nat}{e:TypeId}{sz n:Nat}{v:Value}{xs:List Value}(h:w.ownsRow B e sz v n xs)(he:e=3∨e=25)(k:SameT w w'):w'.ownsRow B e sz v n xs :=
 own_kept h (fun b hb=>by obtain⟨c,f,hc⟩:=Lib.ownsRow_kind h b hb;exact k b c e f hc he)
theorem DE.own.same {B:Nat}{w w':World}{d:DE}(h:d.own B w)(k:SameT w w'):d.own B w' :=
 ⟨own_same h.nodes (.inl rfl) k,own_same h.wv (.inr rfl) k,own_same h.ws (.inl rfl) k,own_same h.gs (.inr rfl) k,own_same h.vs (.inr rfl) k⟩
theorem DE.own.mono {B B':Nat}{w:World}{d:DE}(h:d.own B w)(hB:B'<=B):d.own B' w:=⟨own_mono h.nodes hB,own_mono h.wv hB,own_mono h.ws hB,own_mono h.gs hB,own_mono h.vs hB⟩
theorem Kept.sameT {w w':World}(k:Kept w w'):SameT w w':=fun b c t f hb _=>k.block b (by
 rcases Nat.lt_or_ge b w.heap.size with h|h
 ·exact h
 ·rw[Array.getElem?_eq_none h]at hb;cases hb)
structure DE.fit (d:DE):Prop where
 nodes:d.nodes.length*8<=140737488355328
 wv:d.wv.length*16<=140737488355328
 ws:d.ws.length*8<=140737488355328
 gs:d.md.gs.length*16<=140737488355328
 vs:d.md.vs.length*16<=140737488355328
def OwnD (B:Nat)(w:World)(v:Value)(es:List DE):Prop:=w.ownsRow B 48 13 v es.length (es.flatMap DE.cells)
theorem flatMap_cells_at (es:List DE):∀j,j<es.length->∀i,i<13->(es.flatMap DE.cells)[j*13+i]?=some (((es.map DE.cells).getD j []).getD i undef):=by
 induction es with
 |nil=>intro j h;simp at h
 |cons x r ih=>
  intro j hj i hi
  have hx:x.cells.length=13:=rfl
  rw[List.flatMap_cons,List.map_cons]
  cases j with
  |zero=>
   rw[Nat.zero_mul,Nat.zero_add,List.getElem?_append_left (by omega),List.getD_cons_zero,List.getD_eq_getElem?_getD,List.getElem?_eq_getElem (by omega)]
   rfl
  |succ j=>
   rw[List.getElem?_append_right (by rw[hx,Nat.succ_mul];omega),hx,show (j+1)*13+i-13=j*13+i by omega,List.getD_cons_succ]
   exact ih j (by simpa using hj) i hi
theorem OwnD.rows {B:Nat}{w:World}{v:Value}{es:List DE}(h:OwnD B w v es):RowsR 13 w v (es.map DE.cells):=by
 by_cases h0:0<es.length
 ·obtain⟨g,cap,rfl,_,hg,_,hc,_⟩:=own_cell h h0
  refine⟨_,_,by rw[List.length_map],fun _=>⟨g,0,rfl,hg,fun j hj i hi=>?_⟩⟩
  rw[Nat.zero_add]
  exact hc _ _ (flatMap_cells_at es j (by simpa using hj) i hi)
 ·obtain⟨ao,cap,rfl⟩:=own_shape h
  exact⟨_,_,by rw[List.length_map],fun h=>absurd h (by rw[List.length_map];exact h0)⟩
theorem OwnD.dsr {B:Nat}{w:World}{v:Value}{es:List DE}(h:OwnD B w v es)(ho:∀d∈es,d.own B w):DsR w v es:=⟨h.rows,fun d hd=>(ho d hd).ok⟩
theorem info_dev:(Tryz.prog.info? 48).map (fun i=>(i.zero,i.size,i.bytes))=some (some (.agg #[.int .u8 0,.string ByteArray.empty,.slice none 0 0,.int .i64 0,.int .i64 0,.int .i64 0,.int .i64 0,.slice none 0 0,.slice none 0 0,.string ByteArray.empty,.int .u8 0,.slice none 0 0,.slice none 0 0]),13,200):=by kernel_rfl
theorem und_devs:Tryz.prog.underlying 23=some (.slice 48):=by kernel_rfl
open Q (hid' Lett ErrV Tab)
open X (RS OwnS strs)
theorem isl_row {t:TypeId}{W:World}{p:Nat}{l:List Int}(h:RowL t W p (l.map (Value.int .i64)))(c:Nat):ISl W (.slice (some ⟨p,0,none⟩) l.length c) l :=
 ⟨some ⟨p,0,none⟩,c,rfl,fun _=>⟨p,0,rfl,h.lt,fun j hj=>by rw[Nat.zero_add];exact h.cell j _ (by simp[hj])⟩⟩
theorem nsl_row {t:TypeId}{W:World}{p:Nat}{l:List (Int×Int)}(h:RowL t W p (ncs l))(c:Nat):NSl W (.slice (some ⟨p,0,none⟩) l.length c) l :=
 ⟨some ⟨p,0,none⟩,c,rfl,fun _=>⟨p,0,rfl,h.lt,fun j hj=>by
  rw[Nat.zero_add]
  exact⟨h.cell _ _ (ncs_at l j hj).1,h.cell _ _ (ncs_at l j hj).2⟩⟩⟩
theorem rs_row {t:TypeId}{W:World}{p:Nat}{l:List (List UInt8)}(h:RowL t W p (strs l))(c:Nat):RS W (.slice (some ⟨p,0,none⟩) l.length c) l :=
 ⟨some ⟨p,0,none⟩,c,rfl,fun _=>⟨p,0,rfl,h.lt,fun j hj=>by
  rw[Nat.zero_add]
  exact h.cell j _ (by unfold strs;simp[hj])⟩⟩
theorem flatten_at (sz:Nat)(L:List (List Value))(hl:∀x∈L,x.length=sz):∀j,j<L.length->∀i,i<sz->L.flatten[j*sz+i]?=some ((L.getD j []).getD i undef):=by
 induction L with
 |nil=>intro j h;simp at h
 |cons x r ih=>
  intro j hj i hi
  have hx:=hl x (List.mem_cons_self ..)
  rw[List.flatten_cons]
  cases j with
  |zero=>
   rw[Nat.zero_mul,Nat.zero_add,List.getElem?_append_left (by omega),List.getD_cons_zero,List.getD_eq_getElem?_getD,List.getElem?_eq_getElem (by omega)]
   rfl
  |succ j=>
   rw[List.getElem?_append_right (by rw[hx,Nat.succ_mul];omega),hx,show (j+1)*sz+i-sz=j*sz+i by rw[Nat.succ_mul];omega,List.getD_cons_succ]
   exact ih (fun y hy=>hl y (List.mem_cons_of_mem _ hy)) j (by simpa using hj) i hi
theorem rows_row {t:TypeId}{W:World}{p sz:Nat}{L:List (List Value)}(h:RowL t W p L.flatten)(hl:∀x∈L,x.length=sz)(c:Nat):RowsR sz W (.slice (some ⟨p,0,none⟩) L.length c) L :=
 ⟨some ⟨p,0,none⟩,c,rfl,fun _=>⟨p,0,rfl,h.lt,fun j hj i hi=>by
  rw[Nat.zero_add]
  exact h.cell _ _ (flatten_at sz L hl j hj i hi)⟩⟩
def deA1 (h:Nat):DE:=⟨118,[118,49],[1,0],some ⟨h+1+1,0,none⟩,2,0,0,0,1,[(1,0)],some ⟨h+1+1+1,0,none⟩,1,[],none,0,⟨[],0,[],[]⟩,none,0,none,0⟩
def deA2 (h:Nat):DE:=⟨99,[99,49],[2,0],some ⟨h+1+1+1+1,0,none⟩,2,0,1,0,0,[],none,0,[],none,0,⟨[],0,[],[]⟩,none,0,none,0⟩
def deA3 (h:Nat):DE:=⟨108,[108,49],[1,0],some ⟨h+1+1+1+1+1,0,none⟩,2,0,1,0,0,[],none,0,[],none,0,⟨[],0,[],[]⟩,none,0,none,0⟩
def nsA:List (List UInt8):=[[48],[97],[98]]
def dsA (h:Nat):List DE:=[deA1 h,deA2 h,deA3 h]
theorem nil_isl (W:World):ISl W (.slice none 0 0) []:=⟨none,0,rfl,fun h=>absurd h (by decide)⟩
theorem nil_nsl (W:World):NSl W (.slice none 0 0) []:=⟨none,0,rfl,fun h=>absurd h (by decide)⟩
theorem awake_world (w:World):Kept w ((((((((w.alloc (.cells #[.int .i64 1,.int .i64 0] 25)).alloc (.cells #[.string ⟨#[48]⟩,.string ⟨#[97]⟩,.string ⟨#[98]⟩] 9)).alloc (.cells #[.int .i64 1,.int .i64 0] 3)).alloc (.cells #[.int .i64 1,.int .i64 0] 25)).alloc (.cells #[.int .i64 2,.int .i64 0] 3)).alloc (.cells #[.int .i64 1,.int .i64 0] 3)).alloc (.cells #[.int .u8 118,.string ⟨#[118,49]⟩,.slice (some ⟨w.heap.size+1+1,0,none⟩) 2 2,.int .i64 0,.int .i64 0,.int .i64 0,.int .i64 1,.slice (some ⟨w.heap.size+1+1+1,0,none⟩) 1 1,.slice none 0 0,.string ⟨#[]⟩,.int .u8 0,.slice none 0 0,.slice none 0 0,.int .u8 99,.string ⟨#[99,49]⟩,.slice (some ⟨w.heap.size+1+1+1+1,0,none⟩) 2 2,.int .i64 0,.int .i64 1,.int .i64 0,.int .i64 0,.slice none 0 0,.slice none 0 0,.string ⟨#[]⟩,.int .u8 0,.slice none 0 0,.slice none 0 0,.int .u8 108,.string ⟨#[108,49]⟩,.slice (some ⟨w.heap.size+1+1+1+1+1,0,none⟩) 2 2,.int .i64 0,.int .i64 1,.int .i64 0,.int .i64 0,.slice none 0 0,.slice none 0 0,.string ⟨#[]⟩,.int .u8 0,.slice none 0 0,.slice none 0 0] 48)).alloc (.cells #[.slice (some ⟨w.heap.size+1,0,none⟩) 3 3,.slice (some ⟨w.heap.size+1+1+1+1+1+1,0,none⟩) 3 3,.int .i64 1,.int .i64 0,.int .i64 1] 27))/\RowL 27 ((((((((w.alloc (.cells #[.int .i64 1,.int .i64 0] 25)).alloc (.cells #[.string ⟨#[48]⟩,.string ⟨#[97]⟩,.string ⟨#[98]⟩] 9)).alloc (.cells #[.int .i64 1,.int .i64 0] 3)).alloc (.cells #[.int .i64 1,.int .i64 0] 25)).alloc (.cells #[.int .i64 2,.int .i64 0] 3)).alloc (.cells #[.int .i64 1,.int .i64 0] 3)).alloc (.cells #[.int .u8 118,.string ⟨#[118,49]⟩,.slice (some ⟨w.heap.size+1+1,0,none⟩) 2 2,.int .i64 0,.int .i64 0,.int .i64 0,.int .i64 1,.slice (some ⟨w.heap.size+1+1+1,0,none⟩) 1 1,.slice none 0 0,.string ⟨#[]⟩,.int .u8 0,.slice none 0 0,.slice none 0 0,.int .u8 99,.string ⟨#[99,49]⟩,.slice (some ⟨w.heap.size+1+1+1+1,0,none⟩) 2 2,.int .i64 0,.int .i64 1,.int .i64 0,.int .i64 0,.slice none 0 0,.slice none 0 0,.string ⟨#[]⟩,.int .u8 0,.slice none 0 0,.slice none 0 0,.int .u8 108,.string ⟨#[108,49]⟩,.slice (some ⟨w.heap.size+1+1+1+1+1,0,none⟩) 2 2,.int .i64 0,.int .i64 1,.int .i64 0,.int .i64 0,.slice none 0 0,.slice none 0 0,.string ⟨#[]⟩,.int .u8 0,.slice none 0 0,.slice none 0 0] 48)).alloc (.cells #[.slice (some ⟨w.heap.size+1,0,none⟩) 3 3,.slice (some ⟨w.heap.size+1+1+1+1+1+1,0,none⟩) 3 3,.int .i64 1,.int .i64 0,.int .i64 1] 27)) (w.heap.size+1+1+1+1+1+1+1) [.slice (some ⟨w.heap.size+1,0,none⟩) 3 3,.slice (some ⟨w.heap.size+1+1+1+1+1+1,0,none⟩) 3 3,.int .i64 1,.int .i64 0,.int .i64 1]/\RS ((((((((w.alloc (.cells #[.int .i64 1,.int .i64 0] 25)).alloc (.cells #[.string ⟨#[48]⟩,.string ⟨#[97]⟩,.string ⟨#[98]⟩] 9)).alloc (.cells #[.int .i64 1,.int .i64 0] 3)).alloc (.cells #[.int .i64 1,.int .i64 0] 25)).alloc (.cells #[.int .i64 2,.int .i64 0] 3)).alloc (.cells #[.int .i64 1,.int .i64 0] 3)).alloc (.cells #[.int .u8 118,.string ⟨#[118,49]⟩,.slice (some ⟨w.heap.size+1+1,0,none⟩) 2 2,.int .i64 0,.int .i64 0,.int .i64 0,.int .i64 1,.slice (some ⟨w.heap.size+1+1+1,0,none⟩) 1 1,.slice none 0 0,.string ⟨#[]⟩,.int .u8 0,.slice none 0 0,.slice none 0 0,.int .u8 99,.string ⟨#[99,49]⟩,.slice (some ⟨w.heap.size+1+1+1+1,0,none⟩) 2 2,.int .i64 0,.int .i64 1,.int .i64 0,.int .i64 0,.slice none 0 0,.slice none 0 0,.string ⟨#[]⟩,.int .u8 0,.slice none 0 0,.slice none 0 0,.int .u8 108,.string ⟨#[108,49]⟩,.slice (some ⟨w.heap.size+1+1+1+1+1,0,none⟩) 2 2,.int .i64 0,.int .i64 1,.int .i64 0,.int .i64 0,.slice none 0 0,.slice none 0 0,.string ⟨#[]⟩,.int .u8 0,.slice none 0 0,.slice none 0 0] 48)).alloc (.cells #[.slice (some ⟨w.heap.size+1,0,none⟩) 3 3,.slice (some ⟨w.heap.size+1+1+1+1+1+1,0,none⟩) 3 3,.int .i64 1,.int .i64 0,.int .i64 1] 27)) (.slice (some ⟨w.heap.size+1,0,none⟩) 3 3) nsA/\DsR ((((((((w.alloc (.cells #[.int .i64 1,.int .i64 0] 25)).alloc (.cells #[.string ⟨#[48]⟩,.string ⟨#[97]⟩,.string ⟨#[98]⟩] 9)).alloc (.cells #[.int .i64 1,.int .i64 0] 3)).alloc (.cells #[.int .i64 1,.int .i64 0] 25)).alloc (.cells #[.int .i64 2,.int .i64 0] 3)).alloc (.cells #[.int .i64 1,.int .i64 0] 3)).alloc (.cells #[.int .u8 118,.string ⟨#[118,49]⟩,.slice (some ⟨w.heap.size+1+1,0,none⟩) 2 2,.int .i64 0,.int .i64 0,.int .i64 0,.int .i64 1,.slice (some ⟨w.heap.size+1+1+1,0,none⟩) 1 1,.slice none 0 0,.string ⟨#[]⟩,.int .u8 0,.slice none 0 0,.slice none 0 0,.int .u8 99,.string ⟨#[99,49]⟩,.slice (some ⟨w.heap.size+1+1+1+1,0,none⟩) 2 2,.int .i64 0,.int .i64 1,.int .i64 0,.int .i64 0,.slice none 0 0,.slice none 0 0,.string ⟨#[]⟩,.int .u8 0,.slice none 0 0,.slice none 0 0,.int .u8 108,.string ⟨#[108,49]⟩,.slice (some ⟨w.heap.size+1+1+1+1+1,0,none⟩) 2 2,.int .i64 0,.int .i64 1,.int .i64 0,.int .i64 0,.slice none 0 0,.slice none 0 0,.string ⟨#[]⟩,.int .u8 0,.slice none 0 0,.slice none 0 0] 48)).alloc (.cells #[.slice (some ⟨w.heap.size+1,0,none⟩) 3 3,.slice (some ⟨w.heap.size+1+1+1+1+1+1,0,none⟩) 3 3,.int .i64 1,.int .i64 0,.int .i64 1] 27)) (.slice (some ⟨w.heap.size+1+1+1+1+1+1,0,none⟩) 3 3) (dsA w.heap.size):=by
 obtain⟨W1,e1⟩:∃V,V=w.alloc (.cells #[.int .i64 1,.int .i64 0] 25):=⟨_,rfl⟩
 rw[<-e1]
 obtain⟨W2,e2⟩:∃V,V=W1.alloc (.cells #[.string ⟨#[48]⟩,.string ⟨#[97]⟩,.string ⟨#[98]⟩] 9):=⟨_,rfl⟩
 rw[<-e2]
 obtain⟨W3,e3⟩:∃V,V=W2.alloc (.cells #[.int .i64 1,.int .i64 0] 3):=⟨_,rfl⟩
 rw[<-e3]
 obtain⟨W4,e4⟩:∃V,V=W3.alloc (.cells #[.int .i64 1,.int .i64 0] 25):=⟨_,rfl⟩
 rw[<-e4]
 obtain⟨W5,e5⟩:∃V,V=W4.alloc (.cells #[.int .i64 2,.int .i64 0] 3):=⟨_,rfl⟩
 rw[<-e5]
 obtain⟨W6,e6⟩:∃V,V=W5.alloc (.cells #[.int .i64 1,.int .i64 0] 3):=⟨_,rfl⟩
 rw[<-e6]
 obtain⟨W7,e7⟩:∃V,V=W6.alloc (.cells #[.int .u8 118,.string ⟨#[118,49]⟩,.slice (some ⟨w.heap.size+1+1,0,none⟩) 2 2,.int .i64 0,.int .i64 0,.int .i64 0,.int .i64 1,.slice (some ⟨w.heap.size+1+1+1,0,none⟩) 1 1,.slice none 0 0,.string ⟨#[]⟩,.int .u8 0,.slice none 0 0,.slice none 0 0,.int .u8 99,.string ⟨#[99,49]⟩,.slice (some ⟨w.heap.size+1+1+1+1,0,none⟩) 2 2,.int .i64 0,.int .i64 1,.int .i64 0,.int .i64 0,.slice none 0 0,.slice none 0 0,.string ⟨#[]⟩,.int .u8 0,.slice none 0 0,.slice none 0 0,.int .u8 108,.string ⟨#[108,49]⟩,.slice (some ⟨w.heap.size+1+1+1+1+1,0,none⟩) 2 2,.int .i64 0,.int .i64 1,.int .i64 0,.int .i64 0,.slice none 0 0,.slice none 0 0,.string ⟨#[]⟩,.int .u8 0,.slice none 0 0,.slice none 0 0] 48):=⟨_,rfl⟩
 rw[<-e7]
 obtain⟨W8,e8⟩:∃V,V=W7.alloc (.cells #[.slice (some ⟨w.heap.size+1,0,none⟩) 3 3,.slice (some ⟨w.heap.size+1+1+1+1+1+1,0,none⟩) 3 3,.int .i64 1,.int .i64 0,.int .i64 1] 27):=⟨_,rfl⟩
 rw[<-e8]
 have k0:Kept w W1:=by rw[e1];exact(Kept.refl _).alloc _
 have r0:RowL 25 W1 w.heap.size [.int .i64 1,.int .i64 0]:=by rw[e1];exact RowL.alloc 25 w [.int .i64 1,.int .i64 0]
 have s1:W1.heap.size=w.heap.size+1:=by rw[e1];simp
 have k1:Kept W1 W2:=by rw[e2];exact(Kept.refl _).alloc _
 have r1:RowL 9 W2 W1.heap.size [.string ⟨#[48]⟩,.string ⟨#[97]⟩,.string ⟨#[98]⟩]:=by rw[e2];exact RowL.alloc 9 W1 [.string ⟨#[48]⟩,.string ⟨#[97]⟩,.string ⟨#[98]⟩]
 have s2:W2.heap.size=W1.heap.size+1:=by rw[e2];simp
 have k2:Kept W2 W3:=by rw[e3];exact(Kept.refl _).alloc _
 have r2:RowL 3 W3 W2.heap.size [.int .i64 1,.int .i64 0]:=by rw[e3];exact RowL.alloc 3 W2 [.int .i64 1,.int .i64 0]
 have s3:W3.heap.size=W2.heap.size+1:=by rw[e3];simp
 have k3:Kept W3 W4:=by rw[e4];exact(Kept.refl _).alloc _
 have r3:RowL 25 W4 W3.heap.size [.int .i64 1,.int .i64 0]:=by rw[e4];exact RowL.alloc 25 W3 [.int .i64 1,.int .i64 0]
 have s4:W4.heap.size=W3.heap.size+1:=by rw[e4];simp
 have k4:Kept W4 W5:=by rw[e5];exact(Kept.refl _).alloc _
 have r4:RowL 3 W5 W4.heap.size [.int .i64 2,.int .i64 0]:=by rw[e5];exact RowL.alloc 3 W4 [.int .i64 2,.int .i64 0]
 have s5:W5.heap.size=W4.heap.size+1:=by rw[e5];simp
 have k5:Kept W5 W6:=by rw[e6];exact(Kept.refl _).alloc _
 have r5:RowL 3 W6 W5.heap.size [.int .i64 1,.int .i64 0]:=by rw[e6];exact RowL.alloc 3 W5 [.int .i64 1,.int .i64 0]
 have s6:W6.heap.size=W5.heap.size+1:=by rw[e6];simp
 have k6:Kept W6 W7:=by rw[e7];exact(Kept.refl _).alloc _
 have r6:RowL 48 W7 W6.heap.size [.int .u8 118,.string ⟨#[118,49]⟩,.slice (some ⟨w.heap.size+1+1,0,none⟩) 2 2,.int .i64 0,.int .i64 0,.int .i64 0,.int .i64 1,.slice (some ⟨w.heap.size+1+1+1,0,none⟩) 1 1,.slice none 0 0,.string ⟨#[]⟩,.int .u8 0,.slice none 0 0,.slice none 0 0,.int .u8 99,.string ⟨#[99,49]⟩,.slice (some ⟨w.heap.size+1+1+1+1,0,none⟩) 2 2,.int .i64 0,.int .i64 1,.int .i64 0,.int .i64 0,.slice none 0 0,.slice none 0 0,.string ⟨#[]⟩,.int .u8 0,.slice none 0 0,.slice none 0 0,.int .u8 108,.string ⟨#[108,49]⟩,.slice (some ⟨w.heap.size+1+1+1+1+1,0,none⟩) 2 2,.int .i64 0,.int .i64 1,.int .i64 0,.int .i64 0,.slice none 0 0,.slice none 0 0,.string ⟨#[]⟩,.int .u8 0,.slice none 0 0,.slice none 0 0]:=by rw[e7];exact RowL.alloc 48 W6 [.int .u8 118,.string ⟨#[118,49]⟩,.slice (some ⟨w.heap.size+1+1,0,none⟩) 2 2,.int .i64 0,.int .i64 0,.int .i64 0,.int .i64 1,.slice (some ⟨w.heap.size+1+1+1,0,none⟩) 1 1,.slice none 0 0,.string ⟨#[]⟩,.int .u8 0,.slice none 0 0,.slice none 0 0,.int .u8 99,.string ⟨#[99,49]⟩,.slice (some ⟨w.heap.size+1+1+1+1,0,none⟩) 2 2,.int .i64 0,.int .i64 1,.int .i64 0,.int .i64 0,.slice none 0 0,.slice none 0 0,.string ⟨#[]⟩,.int .u8 0,.slice none 0 0,.slice none 0 0,.int .u8 108,.string ⟨#[108,49]⟩,.slice (some ⟨w.heap.size+1+1+1+1+1,0,none⟩) 2 2,.int .i64 0,.int .i64 1,.int .i64 0,.int .i64 0,.slice none 0 0,.slice none 0 0,.string ⟨#[]⟩,.int .u8 0,.slice none 0 0,.slice none 0 0]
 have s7:W7.heap.size=W6.heap.size+1:=by rw[e7];simp
 have k7:Kept W7 W8:=by rw[e8];exact(Kept.refl _).alloc _
 have r7:RowL 27 W8 W7.heap.size [.slice (some ⟨w.heap.size+1,0,none⟩) 3 3,.slice (some ⟨w.heap.size+1+1+1+1+1+1,0,none⟩) 3 3,.int .i64 1,.int .i64 0,.int .i64 1]:=by rw[e8];exact RowL.alloc 27 W7 [.slice (some ⟨w.heap.size+1,0,none⟩) 3 3,.slice (some ⟨w.heap.size+1+1+1+1+1+1,0,none⟩) 3 3,.int .i64 1,.int .i64 0,.int .i64 1]
 have s8:W8.heap.size=W7.heap.size+1:=by rw[e8];simp
 clear e1 e2 e3 e4 e5 e6 e7 e8
 rw[s7,s6,s5,s4,s3,s2,s1]at r7
 rw[s6,s5,s4,s3,s2,s1]at r6
 rw[s5,s4,s3,s2,s1]at r5
 rw[s4,s3,s2,s1]at r4
 rw[s3,s2,s1]at r3
 rw[s2,s1]at r2
 rw[s1]at r1
 have l7:=k7
 have l6:=k6.trans l7
 have l5:=k5.trans l6
 have l4:=k4.trans l5
 have l3:=k3.trans l4
 have l2:=k2.trans l3
 have l1:=k1.trans l2
 have l0:=k0.trans l1
 have hfl:[.int .u8 118,.string ⟨#[118,49]⟩,.slice (some ⟨w.heap.size+1+1,0,none⟩) 2 2,.int .i64 0,.int .i64 0,.int .i64 0,.int .i64 1,.slice (some ⟨w.heap.size+1+1+1,0,none⟩) 1 1,.slice none 0 0,.string ⟨#[]⟩,.int .u8 0,.slice none 0 0,.slice none 0 0,.int .u8 99,.string ⟨#[99,49]⟩,.slice (some ⟨w.heap.size+1+1+1+1,0,none⟩) 2 2,.int .i64 0,.int .i64 1,.int .i64 0,.int .i64 0,.slice none 0 0,.slice none 0 0,.string ⟨#[]⟩,.int .u8 0,.slice none 0 0,.slice none 0 0,.int .u8 108,.string ⟨#[108,49]⟩,.slice (some ⟨w.heap.size+1+1+1+1+1,0,none⟩) 2 2,.int .i64 0,.int .i64 1,.int .i64 0,.int .i64 0,.slice none 0 0,.slice none 0 0,.string ⟨#[]⟩,.int .u8 0,.slice none 0 0,.slice none 0 0]=((dsA w.heap.size).map DE.cells).flatten:=rfl
 rw[hfl]at r6
 have q1:=r1.kept l2
 have q2:=r2.kept l3
 have q3:=r3.kept l4
 have q4:=r4.kept l5
 have q5:=r5.kept l6
 have q6:=r6.kept l7
 clear r0 r1 r2 r3 r4 r5 r6 k0 k1 k2 k3 k4 k5 k6 k7 l1 l2 l3 l4 l5 l6 l7 s1 s2 s3 s4 s5 s6 s7 s8 hfl
 refine⟨l0,r7,rs_row (l:=nsA) q1 3,rows_row (L:=(dsA w.heap.size).map DE.cells) q6 (fun x hx=>?_) 3,fun d hd=>?_⟩
 ·obtain⟨d,_,rfl⟩:=List.mem_map.1 hx
  rfl
 ·rcases List.mem_cons.1 hd with rfl|hd
  ·exact⟨isl_row (l:=[1,0]) q2 2,nsl_row (l:=[(1,0)]) q3 1,nil_isl _,nil_nsl _,nil_nsl _⟩
  rcases List.mem_cons.1 hd with rfl|hd
  ·exact⟨isl_row (l:=[2,0]) q4 2,nil_nsl _,nil_isl _,nil_nsl _,nil_nsl _⟩
  rcases List.mem_cons.1 hd with rfl|hd
  ·exact⟨isl_row (l:=[1,0]) q5 2,nil_nsl _,nil_isl _,nil_nsl _,nil_nsl _⟩
  ·cases hd
theorem dsA_sz (h:Nat):∀d∈dsA h,d.sz:=by
 intro d hd
 rcases List.mem_cons.1 hd with rfl|hd
 ·exact⟨Nat.le_of_ble_eq_true (by kernel_rfl),Nat.le_of_ble_eq_true (by kernel_rfl),Nat.le_of_ble_eq_true (by kernel_rfl),Nat.le_of_ble_eq_true (by kernel_rfl),Nat.le_of_ble_eq_true (by kernel_rfl)⟩
 rcases List.mem_cons.1 hd with rfl|hd
 ·exact⟨Nat.le_of_ble_eq_true (by kernel_rfl),Nat.le_of_ble_eq_true (by kernel_rfl),Nat.le_of_ble_eq_true (by kernel_rfl),Nat.le_of_ble_eq_true (by kernel_rfl),Nat.le_of_ble_eq_true (by kernel_rfl)⟩
 rcases List.mem_cons.1 hd with rfl|hd
 ·exact⟨Nat.le_of_ble_eq_true (by kernel_rfl),Nat.le_of_ble_eq_true (by kernel_rfl),Nat.le_of_ble_eq_true (by kernel_rfl),Nat.le_of_ble_eq_true (by kernel_rfl),Nat.le_of_ble_eq_true (by kernel_rfl)⟩
 ·cases hd
theorem aw_ref1 (h:Nat):refT 1 0 1 nsA (dsA h) 1=0:=by
 kernel_rfl
theorem aw_ref2 (h:Nat):refT 1 0 1 nsA (dsA h) 2=0:=by
 kernel_rfl
theorem aw_flo1 (h:Nat):floR 1 0 1 nsA (dsA h) 1=[2]:=by
 kernel_rfl
theorem aw_flo2 (h:Nat):floR 1 0 1 nsA (dsA h) 2=[]:=by
 kernel_rfl
theorem aw_loo1 (h:Nat):looR 1 0 1 nsA (dsA h) 1=[2]:=by
 kernel_rfl
theorem aw_chk1 (h:Nat):tchk 1 0 1 nsA (dsA h) 1=100:=by
 kernel_rfl
theorem aw_chk2 (h:Nat):tchk 1 0 1 nsA (dsA h) 2=0:=by
 kernel_rfl
theorem aw_chk3 (h:Nat):tchk 1 0 1 nsA (dsA h) 3=110:=by
 kernel_rfl
theorem awake10_any (w:World)(hL:Lett w)(hE:ErrV w)(hT:Tab w) :
  Calls Tryz.prog 6 #[] w fun e w'=>Kept w w'/\e=.returned (.bool true):=by
 have hw:=awake_world w
 have HLE:=hid' (And.intro hL (And.intro hE hT))
 clear hL hE hT
 go_enter Tryz.func6,Tryz.ntmps6
 go_upto_region 3 with fail
 generalize ((((((((w.alloc (.cells #[.int .i64 1,.int .i64 0] 25)).alloc (.cells #[.string ⟨#[48]⟩,.string ⟨#[97]⟩,.string ⟨#[98]⟩] 9)).alloc (.cells #[.int .i64 1,.int .i64 0] 3)).alloc (.cells #[.int .i64 1,.int .i64 0] 25)).alloc (.cells #[.int .i64 2,.int .i64 0] 3)).alloc (.cells #[.int .i64 1,.int .i64 0] 3)).alloc (.cells #[.int .u8 118,.string ⟨#[118,49]⟩,.slice (some ⟨w.heap.size+1+1,0,none⟩) 2 2,.int .i64 0,.int .i64 0,.int .i64 0,.int .i64 1,.slice (some ⟨w.heap.size+1+1+1,0,none⟩) 1 1,.slice none 0 0,.string ⟨#[]⟩,.int .u8 0,.slice none 0 0,.slice none 0 0,.int .u8 99,.string ⟨#[99,49]⟩,.slice (some ⟨w.heap.size+1+1+1+1,0,none⟩) 2 2,.int .i64 0,.int .i64 1,.int .i64 0,.int .i64 0,.slice none 0 0,.slice none 0 0,.string ⟨#[]⟩,.int .u8 0,.slice none 0 0,.slice none 0 0,.int .u8 108,.string ⟨#[108,49]⟩,.slice (some ⟨w.heap.size+1+1+1+1+1,0,none⟩) 2 2,.int .i64 0,.int .i64 1,.int .i64 0,.int .i64 0,.slice none 0 0,.slice none 0 0,.string ⟨#[]⟩,.int .u8 0,.slice none 0 0,.slice none 0 0] 48)).alloc (.cells #[.slice (some ⟨w.heap.size+1,0,none⟩) 3 3,.slice (some ⟨w.heap.size+1+1+1+1+1+1,0,none⟩) 3 3,.int .i64 1,.int .i64 0,.int .i64 1] 27))=W at hw ⊢
 obtain⟨kA,hF,hns,hds⟩:=hw
 have HS:=hid' (dsA_sz w.heap.size)
 obtain⟨n0,hn0⟩:∃n,n=w.heap.size:=⟨_,rfl⟩
 rw[<-hn0]at hF hns hds HS ⊢
 clear hn0
 have HK:=hid' kA
 have HF:=hid' hF
 have HN:=hid' hns
 have HD:=hid' hds
 clear kA hF hns hds
 have f0:=HF.out.cell 0 (.slice (some ⟨n0+1,0,none⟩) 3 3)
 have f1:=HF.out.cell 1 (.slice (some ⟨n0+1+1+1+1+1+1,0,none⟩) 3 3)
 have f2:=HF.out.cell 2 (.int .i64 1)
 have f3:=HF.out.cell 3 (.int .i64 0)
 have f4:=HF.out.cell 4 (.int .i64 1)
 go_wp2_with fail
 refine(Floats_any (some ⟨n0+1,0,none⟩) 3 3 (some ⟨n0+1+1+1+1+1+1,0,none⟩) 3 3 1 0 1 1 nsA (dsA n0) _ HN.out (by decide) (by decide) (by decide) HD.out HS.out (HLE.out.1.kept HK.out) (HLE.out.2.1.kept HK.out) (HLE.out.2.2.kept HK.out)).mono ?_
 rintro e w1 ⟨hk,aw1,lw1,cw1,rfl,hl,hv⟩
 rw[aw_ref1]
 rw[aw_flo1]at hl hv
 have hl2:lw1=1:=hl
 clear hl
 subst hl2
 obtain⟨gw1,_,e,_,_,_,hc,_⟩:=own_cell hv (by decide)
 simp only[Value.slice.injEq]at e
 obtain⟨rfl,-,rfl⟩:=e
 have Hw1:=hid' (fun (V:World) (K:Kept w1 V)=>(OwnI.isl hv).kept K)
 have bw1:=hid' (show w1.cell? ⟨gw1,0,none⟩=some (.int .i64 2) from hc 0 _ rfl)
 have ltw1:=hid' (World.block_lt_of_cell? w1 ⟨gw1,0,none⟩ bw1.out)
 clear hv hc Hw1
 have HF:=hid' (HF.out.kept hk)
 have HN:=hid' (HN.out.kept hk)
 have HD:=hid' (HD.out.kept hk)
 have HK:=hid' (HK.out.trans hk)
 clear hk f0 f1 f2 f3 f4
 have f0:=HF.out.cell 0 (.slice (some ⟨n0+1,0,none⟩) 3 3)
 have f1:=HF.out.cell 1 (.slice (some ⟨n0+1+1+1+1+1+1,0,none⟩) 3 3)
 have f2:=HF.out.cell 2 (.int .i64 1)
 have f3:=HF.out.cell 3 (.int .i64 0)
 have f4:=HF.out.cell 4 (.int .i64 1)
 go_wp2_with fail
 refine(Loops_any (some ⟨n0+1,0,none⟩) 3 3 (some ⟨n0+1+1+1+1+1+1,0,none⟩) 3 3 1 0 1 1 nsA (dsA n0) _ HN.out (by decide) (by decide) (by decide) HD.out HS.out (HLE.out.1.kept HK.out) (HLE.out.2.1.kept HK.out) (HLE.out.2.2.kept HK.out)).mono ?_
 rintro e w2 ⟨hk,aw2,lw2,cw2,rfl,hl,hv⟩
 rw[aw_ref1]
 rw[aw_loo1]at hl hv
 have hl2:lw2=1:=hl
 clear hl
 subst hl2
 obtain⟨gw2,_,e,_,_,_,hc,_⟩:=own_cell hv (by decide)
 simp only[Value.slice.injEq]at e
 obtain⟨rfl,-,rfl⟩:=e
 have Hw2:=hid' (fun (V:World) (K:Kept w2 V)=>(OwnI.isl hv).kept K)
 have bw2:=hid' (show w2.cell? ⟨gw2,0,none⟩=some (.int .i64 2) from hc 0 _ rfl)
 have ltw2:=hid' (World.block_lt_of_cell? w2 ⟨gw2,0,none⟩ bw2.out)
 clear hv hc Hw2
 have HF:=hid' (HF.out.kept hk)
 have HN:=hid' (HN.out.kept hk)
 have HD:=hid' (HD.out.kept hk)
 have HK:=hid' (HK.out.trans hk)
 have bw1:=hid' ((Below.cell hk (p:=⟨gw1,0,none⟩) ltw1.out).trans bw1.out)
 have ltw1:=hid' (Nat.lt_of_lt_of_le ltw1.out hk.size)
 clear hk f0 f1 f2 f3 f4
 have f0:=HF.out.cell 0 (.slice (some ⟨n0+1,0,none⟩) 3 3)
 have f1:=HF.out.cell 1 (.slice (some ⟨n0+1+1+1+1+1+1,0,none⟩) 3 3)
 have f2:=HF.out.cell 2 (.int .i64 1)
 have f3:=HF.out.cell 3 (.int .i64 0)
 have f4:=HF.out.cell 4 (.int .i64 1)
 go_wp2_with fail
 refine(Floats_any (some ⟨n0+1,0,none⟩) 3 3 (some ⟨n0+1+1+1+1+1+1,0,none⟩) 3 3 1 0 1 2 nsA (dsA n0) _ HN.out (by decide) (by decide) (by decide) HD.out HS.out (HLE.out.1.kept HK.out) (HLE.out.2.1.kept HK.out) (HLE.out.2.2.kept HK.out)).mono ?_
 rintro e w3 ⟨hk,aw3,lw3,cw3,rfl,hl,hv⟩
 rw[aw_ref2]
 rw[aw_flo2]at hl hv
 have hl2:lw3=0:=hl
 clear hl
 subst hl2
 clear hv
 have HF:=hid' (HF.out.kept hk)
 have HN:=hid' (HN.out.kept hk)
 have HD:=hid' (HD.out.kept hk)
 have HK:=hid' (HK.out.trans hk)
 have bw1:=hid' ((Below.cell hk (p:=⟨gw1,0,none⟩) ltw1.out).trans bw1.out)
 have ltw1:=hid' (Nat.lt_of_lt_of_le ltw1.out hk.size)
 have bw2:=hid' ((Below.cell hk (p:=⟨gw2,0,none⟩) ltw2.out).trans bw2.out)
 have ltw2:=hid' (Nat.lt_of_lt_of_le ltw2.out hk.size)
 clear hk f0 f1 f2 f3 f4
 have f0:=HF.out.cell 0 (.slice (some ⟨n0+1,0,none⟩) 3 3)
 have f1:=HF.out.cell 1 (.slice (some ⟨n0+1+1+1+1+1+1,0,none⟩) 3 3)
 have f2:=HF.out.cell 2 (.int .i64 1)
 have f3:=HF.out.cell 3 (.int .i64 0)
 have f4:=HF.out.cell 4 (.int .i64 1)
 have d1:=bw1.out
 have d2:=bw2.out
 go_wp2_with fail
 refine(TCheck_any (some ⟨n0+1,0,none⟩) 3 3 (some ⟨n0+1+1+1+1+1+1,0,none⟩) 3 3 1 0 1 1 nsA (dsA n0) _ HN.out (by decide) (by decide) (by decide) HD.out HS.out (HLE.out.1.kept HK.out) (HLE.out.2.1.kept HK.out) (HLE.out.2.2.kept HK.out)).mono ?_
 rintro e w4 ⟨hk,rfl⟩
 rw[aw_chk1]
 have HF:=hid' (HF.out.kept hk)
 have HN:=hid' (HN.out.kept hk)
 have HD:=hid' (HD.out.kept hk)
 have HK:=hid' (HK.out.trans hk)
 clear hk f0 f1 f2 f3 f4
 have f0:=HF.out.cell 0 (.slice (some ⟨n0+1,0,none⟩) 3 3)
 have f1:=HF.out.cell 1 (.slice (some ⟨n0+1+1+1+1+1+1,0,none⟩) 3 3)
 have f2:=HF.out.cell 2 (.int .i64 1)
 have f3:=HF.out.cell 3 (.int .i64 0)
 have f4:=HF.out.cell 4 (.int .i64 1)
 go_wp2_with fail
 refine(TCheck_any (some ⟨n0+1,0,none⟩) 3 3 (some ⟨n0+1+1+1+1+1+1,0,none⟩) 3 3 1 0 1 2 nsA (dsA n0) _ HN.out (by decide) (by decide) (by decide) HD.out HS.out (HLE.out.1.kept HK.out) (HLE.out.2.1.kept HK.out) (HLE.out.2.2.kept HK.out)).mono ?_
 rintro e w5 ⟨hk,rfl⟩
 rw[aw_chk2]
 have HF:=hid' (HF.out.kept hk)
 have HN:=hid' (HN.out.kept hk)
 have HD:=hid' (HD.out.kept hk)
 have HK:=hid' (HK.out.trans hk)
 clear hk f0 f1 f2 f3 f4
 have f0:=HF.out.cell 0 (.slice (some ⟨n0+1,0,none⟩) 3 3)
 have f1:=HF.out.cell 1 (.slice (some ⟨n0+1+1+1+1+1+1,0,none⟩) 3 3)
 have f2:=HF.out.cell 2 (.int .i64 1)
 have f3:=HF.out.cell 3 (.int .i64 0)
 have f4:=HF.out.cell 4 (.int .i64 1)
 go_wp2_with fail
 refine(TCheck_any (some ⟨n0+1,0,none⟩) 3 3 (some ⟨n0+1+1+1+1+1+1,0,none⟩) 3 3 1 0 1 3 nsA (dsA n0) _ HN.out (by decide) (by decide) (by decide) HD.out HS.out (HLE.out.1.kept HK.out) (HLE.out.2.1.kept HK.out) (HLE.out.2.2.kept HK.out)).mono ?_
 rintro e w6 ⟨hk,rfl⟩
 rw[aw_chk3]
 have HF:=hid' (HF.out.kept hk)
 have HN:=hid' (HN.out.kept hk)
 have HD:=hid' (HD.out.kept hk)
 have HK:=hid' (HK.out.trans hk)
 clear hk f0 f1 f2 f3 f4
 go_wp2_with fail
 go_ret
 exact⟨HK.out,rfl⟩
open Q (hid')
open X (RS OwnS strs)
theorem set5_row {t:TypeId}{W3:World}{o:Nat}{a0 a1 a2 a3 a4 v0 v1 v2 v3 v4:Value}(h:RowL t W3 o [a0,a1,a2,a3,a4]):RowL t (((((W3.setCell ⟨o,0,none⟩ v0).setCell ⟨o,1,none⟩ v1).setCell ⟨o,2,none⟩ v2).setCell ⟨o,3,none⟩ v3).setCell ⟨o,4,none⟩ v4) o [v0,v1,v2,v3,v4]:=((((h.set 0 v0).set 1 v1).set 2 v2).set 3 v3).set 4 v4
theorem set5_kept {W W3:World}{o:Nat}{v0 v1 v2 v3 v4:Value}(h:Kept W W3)(ho:W.heap.size<=o):Kept W (((((W3.setCell ⟨o,0,none⟩ v0).setCell ⟨o,1,none⟩ v1).setCell ⟨o,2,none⟩ v2).setCell ⟨o,3,none⟩ v3).setCell ⟨o,4,none⟩ v4):=((((h.setCell (p:=⟨o,0,none⟩) ho v0).setCell (p:=⟨o,1,none⟩) ho v1).setCell (p:=⟨o,2,none⟩) ho v2).setCell (p:=⟨o,3,none⟩) ho v3).setCell (p:=⟨o,4,none⟩) ho v4
theorem set5_own {W3:World}{B:Nat}{e:TypeId}{sz n:Nat}{v:Value}{xs:List Value}{o:Nat}{v0 v1 v2 v3 v4:Value}(h:W3.ownsRow B e sz v n xs)(ho:v.ownBlock≠some o):(((((W3.setCell ⟨o,0,none⟩ v0).setCell ⟨o,1,none⟩ v1).setCell ⟨o,2,none⟩ v2).setCell ⟨o,3,none⟩ v3).setCell ⟨o,4,none⟩ v4).ownsRow B e sz v n xs :=
 ownsRow_setCell_other (ownsRow_setCell_other (ownsRow_setCell_other (ownsRow_setCell_other (ownsRow_setCell_other h (a:=⟨o,0,none⟩) ho v0) (a:=⟨o,1,none⟩) ho v1) (a:=⟨o,2,none⟩) ho v2) (a:=⟨o,3,none⟩) ho v3) (a:=⟨o,4,none⟩) ho v4
theorem sameT_set {w:World}{t:TypeId}{o i:Nat}{xs:List Value}{v:Value}(h:RowL t w o xs)(ht:t≠3/\t≠25):SameT w (w.setCell ⟨o,i,none⟩ v):=by
 intro b c t' f hb hk
 by_cases e:b=o
 ·subst e
  obtain⟨c',h2,_⟩:=h
  rw[hb]at h2
  simp at h2
  obtain⟨_,rfl,_⟩:=h2
  rcases hk with hk|hk
  ·exact absurd hk ht.1
  ·exact absurd hk ht.2
 ·exact Below.heap_setCell _ _ _ _ e
theorem sameT_grown {w w':World}{B n:Nat}{v:Value}{xs:List Value}(h:w.ownsRow B 48 13 v n xs)(hg:w.grownBy w' v.ownBlock):SameT w w':=by
 intro b c t f hb hk
 refine hg.block b ?_ (fun e=>?_)
 ·rcases Nat.lt_or_ge b w.heap.size with h|h
  ·exact h
  ·rw[Array.getElem?_eq_none h]at hb;cases hb
 ·obtain⟨c',f',h2⟩:=Lib.ownsRow_kind h b e.symm
  rw[hb]at h2
  simp at h2
  obtain⟨_,rfl,_⟩:=h2
  exact absurd hk (by decide)
theorem news_at (t:TypeId)(w:World)(xs:List Value):∀j u,xs[j]?=some u->(w.alloc (.cells xs.toArray t)).cell? ((⟨w.heap.size,0,none⟩:Addr).add j)=some u:=fun j u hj=>by
 rw[addr_add,Nat.zero_add]
 exact(RowL.alloc t w xs).cell j u hj
theorem ownD_snoc {B:Nat}{w:World}{v:Value}{es:List DE}{d:DE}(h:w.ownsRow B 48 13 v (es.length+1) (es.flatMap DE.cells++d.cells)):OwnD B w v (es++[d]):=by
 unfold OwnD
 rw[List.length_append,List.flatMap_append]
 simpa using h
def CopyIs (B:Nat)(w':World)(e:Ending)(fn:Nat)(fm fx fk:Int)(ns:List (List UInt8))(ds:List DE):Prop :=
 ∃gn cn ev es,e=.returned (.agg #[.slice (some ⟨gn,0,none⟩) fn cn,ev,.int .i64 fm,.int .i64 fx,.int .i64 fk])/\OwnS B w' (.slice (some ⟨gn,0,none⟩) fn cn) ns/\OwnD B w' ev es/\(∀d∈es,d.own B w')/\es.map DE.bare=ds.map DE.bare
theorem copy_any (fa:Option Addr)(fn fc:Nat)(da:Option Addr)(dn dc:Nat)(fm fx fk:Int)(ns:List (List UInt8))(ds:List DE)(w:World)(hns:RS w (.slice fa fn fc) ns)(hnf:fn*16<=140737488355328)(h:DsR w (.slice da dn dc) ds)(hf:∀d∈ds,d.fit)(hdf:dn*200<=140737488355328) :
  Calls Tryz.prog 8 #[.agg #[.slice fa fn fc,.slice da dn dc,.int .i64 fm,.int .i64 fx,.int .i64 fk]] w fun e w'=>Kept w w'/\CopyIs w.heap.size w' e fn fm fx fk ns ds:=by
 have hn:dn=ds.length:=by have:=h.1.len;rw[List.length_map]at this;exact this
 have hfl:fn=ns.length:=by obtain⟨_,_,e,_⟩:=hns;simp at e;exact e.2.1
 obtain⟨i0,hi,hz0,hz1,hz2⟩:=info_parts X.info_str
 have HL:=hid' (And.intro hns (And.intro h hf))
 have HN:=hid' (And.intro hn hfl)
 clear hns h hf hn hfl
 have k1:=(Kept.refl w).alloc (.cells #[.slice fa fn fc,.slice da dn dc,.int .i64 fm,.int .i64 fx,.int .i64 fk] 27)
 have r1:=RowL.alloc 27 w [.slice fa fn fc,.slice da dn dc,.int .i64 fm,.int .i64 fx,.int .i64 fk]
 have k2:=k1.alloc (.cells #[.slice none 0 0,.slice none 0 0,.int .i64 0,.int .i64 0,.int .i64 0] 27)
 have r2:=RowL.alloc 27 (w.alloc (.cells #[.slice fa fn fc,.slice da dn dc,.int .i64 fm,.int .i64 fx,.int .i64 fk] 27)) [.slice none 0 0,.slice none 0 0,.int .i64 0,.int .i64 0,.int .i64 0]
 have r1:=r1.kept ((Kept.refl _).alloc (.cells #[.slice none 0 0,.slice none 0 0,.int .i64 0,.int .i64 0,.int .i64 0] 27))
 go_enter Tryz.func8,Tryz.ntmps8
 go_upto_region 1 with fail
 have hsz:(w.alloc (.cells #[.slice fa fn fc,.slice da dn dc,.int .i64 fm,.int .i64 fx,.int .i64 fk] 27)).heap.size=w.heap.size+1:=by simp
 rw[hsz]at r2
 clear hsz
 generalize (w.alloc (.cells #[.slice fa fn fc,.slice da dn dc,.int .i64 fm,.int .i64 fx,.int .i64 fk] 27)).alloc (.cells #[.slice none 0 0,.slice none 0 0,.int .i64 0,.int .i64 0,.int .i64 0] 27)=W at k2 r1 r2 ⊢
 obtain⟨rb,hrb⟩:∃q,q=w.heap.size+1:=⟨_,rfl⟩
 rw[<-hrb]at r2 ⊢
 obtain⟨p,hp⟩:∃q,q=w.heap.size:=⟨_,rfl⟩
 rw[<-hp]at r1 ⊢
 have HPS:=hid' (And.intro (show w.heap.size<=p by omega) (show w.heap.size<=rb by omega))
 have HK:=hid' k2
 have HP:=hid' r1
 have HRB:=hid' r2
 clear k1 k2 r1 r2 hrb hp
 go_cut [3] (fun v3 wc=>∃o gn cn,v3=.pointer (some ⟨o,0,none⟩)/\Hid ((Kept W wc/\W.heap.size<=o)/\RowL 27 wc o [.slice (some ⟨gn,0,none⟩) fn cn,.slice none 0 0,.int .i64 fm,.int .i64 fx,.int .i64 fk]/\OwnS W.heap.size wc (.slice (some ⟨gn,0,none⟩) fn cn) ns))
 case first=>
  have KT:Kept W W.drew:=(Kept.refl _).drew
  have sS:=hid' (fun (V:World) (K:Kept W V)=>show V.cell? ⟨p,0,none⟩=some (.slice fa fn fc)/\V.cell? ⟨p,2,none⟩=some (.int .i64 fm)/\V.cell? ⟨p,3,none⟩=some (.int .i64 fx)/\V.cell? ⟨p,4,none⟩=some (.int .i64 fk) from⟨(HP.out.kept K).cell 0 (.slice fa fn fc),(HP.out.kept K).cell 2 (.int .i64 fm),(HP.out.kept K).cell 3 (.int .i64 fx),(HP.out.kept K).cell 4 (.int .i64 fk)⟩)
  refine wp_region_held_drew (S:=fun w'=>w'.cell? ⟨p,0,none⟩=some (.slice fa fn fc)/\w'.cell? ⟨p,2,none⟩=some (.int .i64 fm)/\w'.cell? ⟨p,3,none⟩=some (.int .i64 fx)/\w'.cell? ⟨p,4,none⟩=some (.int .i64 fk)) (by kernel_rfl) (sS.out _ KT) (fun hHeld=>?_)
  generalize W.drew=Wd at KT hHeld ⊢
  refine tk 1 hHeld ?_
  refine tk 2 hHeld ?_
  refine tk 4 hHeld ?_
  refine tk 5 hHeld ?_
  refine tk 6 hHeld ?_
  refine tk 7 hHeld ?_
  refine wpAnyH_ready (rs:=[0,9]) (by kernel_rfl) (by simp) ?_
  refine AllReadyH.cons rfl (fun K hK=>?_) (AllReadyH.cons rfl (fun K hK=>?_) AllReadyH.nil)
  ·go_simp
   refine hK.out _ _ (sS.out _ (KT.alloc _)) (fun hHeld=>?_)
   clear hK K
   have hO:=own_none 9 1 Wd W.heap.size KT.size
   have hg0:=KT.size
   have KT:=KT.alloc (Obj.cells #[] 9)
   obtain⟨g0,hg⟩:∃q,q=Wd.heap.size:=⟨_,rfl⟩
   rw[<-hg]at hO hg0 ⊢
   generalize Wd.alloc (Obj.cells #[] 9)=W1 at KT hO hHeld ⊢
   clear hg
   refine wpAnyH_ready (rs:=[3,9]) (by kernel_rfl) (by simp) ?_
   refine AllReadyH.cons rfl (fun K hK=>?_) (AllReadyH.cons rfl (fun K hK=>?_) AllReadyH.nil)
   ·rw[if_pos (by kernel_rfl)]
    refine wp_src (.tmp 6) (.tmp 8) 22 rfl W.heap.size 9 i0 (.string ByteArray.empty) 1 16 X.und_strs hi hz0 hz1 hz2 rfl (by decide) g0 rfl hO fa fn fc (strs ns) rfl (by rw[X.strs_len,HN.out.2]) (strs_src ((HL.out.1.kept HK.out).kept KT)) (X.strs_one ns) (by unfold maxLen;omega) (by omega) KT.size ?_
    intro g cap w2 own2 hg2
    have KT2:Kept W w2:=Below.grown KT hg2 KT.size (fun k hk=>by simp at hk;omega)
    refine hK.out _ _ (sS.out _ KT2) (fun hHeld=>?_)
    clear hK K hg2 hO KT
    go_simp
    refine tk 8 hHeld ?_
    refine rdy 9 fun K hK=>?_
    go_simp
    refine hK.out _ _ (sS.out _ (KT2.alloc _)) (fun hHeld=>?_)
    clear hK K
    have rO:=RowL.alloc 27 w2 [.slice none 0 0,.slice none 0 0,.int .i64 0,.int .i64 0,.int .i64 0]
    have own3:=World.ownsRow.alloc own2 (.cells #[.slice none 0 0,.slice none 0 0,.int .i64 0,.int .i64 0,.int .i64 0] 27)
    have KT3:=KT2.alloc (.cells #[.slice none 0 0,.slice none 0 0,.int .i64 0,.int .i64 0,.int .i64 0] 27)
    have ho3:=KT2.size
    obtain⟨o,ho⟩:∃q,q=w2.heap.size:=⟨_,rfl⟩
    rw[<-ho]at rO ho3 ⊢
    generalize w2.alloc (.cells #[.slice none 0 0,.slice none 0 0,.int .i64 0,.int .i64 0,.int .i64 0] 27)=W3 at KT3 rO own3 hHeld ⊢
    clear ho own2 KT2
    refine rdy 10 fun K hK=>?_
    have o0:=rO.cell 0 (.slice none 0 0)
    have o1:=rO.cell 1 (.slice none 0 0)
    have o2:=rO.cell 2 (.int .i64 0)
    have o3:=rO.cell 3 (.int .i64 0)
    have o4:=rO.cell 4 (.int .i64 0)
    have oz:=rO.fz
    go_simp
    refine hK.out _ _ (sS.out _ (set5_kept KT3 ho3)) (fun hHeld=>?_)
    clear hK K hHeld
    have HQ:=hid' (And.intro (And.intro (set5_kept (v0:=.slice (some ⟨g,0,none⟩) fn cap) (v1:=.slice none 0 0) (v2:=.int .i64 fm) (v3:=.int .i64 fx) (v4:=.int .i64 fk) KT3 ho3) ho3) (And.intro (set5_row (v0:=.slice (some ⟨g,0,none⟩) fn cap) (v1:=.slice none 0 0) (v2:=.int .i64 fm) (v3:=.int .i64 fx) (v4:=.int .i64 fk) rO) (set5_own (v0:=.slice (some ⟨g,0,none⟩) fn cap) (v1:=.slice none 0 0) (v2:=.int .i64 fm) (v3:=.int .i64 fx) (v4:=.int .i64 fk) own3 (own_row own3 rO (by decide)))))
    clear o0 o1 o2 o3 o4 oz rO own3 KT3
    refine _root_.Go.Proofs.YtdjhmgmjiglcbaaGreatDoor.dn ?_
    go_wp2_with fail
    go_meet
    case rel=>exact⟨o,g,cap,rfl,HQ.out.1,HQ.out.2.1,by have:=HQ.out.2.2;unfold OwnS;rw[<-HN.out.2];exact this⟩
   ·go_simp
    refine hK.out _ _ (sS.out _ (KT.alloc _)) (fun hHeld=>?_)
    clear hK K
    have rO:=RowL.alloc 27 W1 [.slice none 0 0,.slice none 0 0,.int .i64 0,.int .i64 0,.int .i64 0]
    have hO2:=World.ownsRow.alloc hO (.cells #[.slice none 0 0,.slice none 0 0,.int .i64 0,.int .i64 0,.int .i64 0] 27)
    have ho3:=KT.size
    have KT2:=KT.alloc (.cells #[.slice none 0 0,.slice none 0 0,.int .i64 0,.int .i64 0,.int .i64 0] 27)
    obtain⟨o,ho⟩:∃q,q=W1.heap.size:=⟨_,rfl⟩
    have hgo:¬o=g0:=by have:=(World.ownsRow.lt hO g0 rfl).2;omega
    rw[<-ho]at rO ho3 ⊢
    generalize W1.alloc (.cells #[.slice none 0 0,.slice none 0 0,.int .i64 0,.int .i64 0,.int .i64 0] 27)=W2 at KT2 rO hO2 hHeld ⊢
    clear ho hO KT
    refine rdy 3 fun K hK=>?_
    refine wp_src (.tmp 6) (.tmp 8) 22 rfl W.heap.size 9 i0 (.string ByteArray.empty) 1 16 X.und_strs hi hz0 hz1 hz2 rfl (by decide) g0 rfl hO2 fa fn fc (strs ns) rfl (by rw[X.strs_len,HN.out.2]) (strs_src ((HL.out.1.kept HK.out).kept KT2)) (X.strs_one ns) (by unfold maxLen;omega) (by omega) KT2.size ?_
    intro g cap W3 own3 hg2
    have KT3:Kept W W3:=Below.grown KT2 hg2 KT2.size (fun k hk=>by simp at hk;omega)
    have rO:=rO.block (hg2.block o rO.lt (fun e=>by simp at e;exact hgo e))
    refine hK.out _ _ (sS.out _ KT3) (fun hHeld=>?_)
    clear hK K hg2 hO2 KT2 hgo
    go_simp
    refine tk 8 hHeld ?_
    refine rdy 10 fun K hK=>?_
    have o0:=rO.cell 0 (.slice none 0 0)
    have o1:=rO.cell 1 (.slice none 0 0)
    have o2:=rO.cell 2 (.int .i64 0)
    have o3:=rO.cell 3 (.int .i64 0)
    have o4:=rO.cell 4 (.int .i64 0)
    have oz:=rO.fz
    go_simp
    refine hK.out _ _ (sS.out _ (set5_kept KT3 ho3)) (fun hHeld=>?_)
    clear hK K hHeld
    have HQ:=hid' (And.intro (And.intro (set5_kept (v0:=.slice (some ⟨g,0,none⟩) fn cap) (v1:=.slice none 0 0) (v2:=.int .i64 fm) (v3:=.int .i64 fx) (v4:=.int .i64 fk) KT3 ho3) ho3) (And.intro (set5_row (v0:=.slice (some ⟨g,0,none⟩) fn cap) (v1:=.slice none 0 0) (v2:=.int .i64 fm) (v3:=.int .i64 fx) (v4:=.int .i64 fk) rO) (set5_own (v0:=.slice (some ⟨g,0,none⟩) fn cap) (v1:=.slice none 0 0) (v2:=.int .i64 fm) (v3:=.int .i64 fx) (v4:=.int .i64 fk) own3 (own_row own3 rO (by decide)))))
    clear o0 o1 o2 o3 o4 oz rO own3 KT3
    refine _root_.Go.Proofs.YtdjhmgmjiglcbaaGreatDoor.dn ?_
    go_wp2_with fail
    go_meet
    case rel=>exact⟨o,g,cap,rfl,HQ.out.1,HQ.out.2.1,by have:=HQ.out.2.2;unfold OwnS;rw[<-HN.out.2];exact this⟩
  ·go_simp
   refine hK.out _ _ (sS.out _ (KT.alloc _)) (fun hHeld=>?_)
   clear hK K
   have rO:=RowL.alloc 27 Wd [.slice none 0 0,.slice none 0 0,.int .i64 0,.int .i64 0,.int .i64 0]
   have ho3:=KT.size
   have KT2:=KT.alloc (.cells #[.slice none 0 0,.slice none 0 0,.int .i64 0,.int .i64 0,.int .i64 0] 27)
   obtain⟨o,ho⟩:∃q,q=Wd.heap.size:=⟨_,rfl⟩
   rw[<-ho]at rO ho3 ⊢
   generalize Wd.alloc (.cells #[.slice none 0 0,.slice none 0 0,.int .i64 0,.int .i64 0,.int .i64 0] 27)=W1 at KT2 rO hHeld ⊢
   clear ho KT
   refine rdy 0 fun K hK=>?_
   go_simp
   refine hK.out _ _ (sS.out _ (KT2.alloc _)) (fun hHeld=>?_)
   clear hK K
   have hO2:=own_none 9 1 W1 W.heap.size KT2.size
   have hg0:=KT2.size
   have hgo:¬o=W1.heap.size:=by have:=rO.lt;omega
   have rO:=rO.kept ((Kept.refl _).alloc (Obj.cells #[] 9))
   have KT2:=KT2.alloc (Obj.cells #[] 9)
   obtain⟨g0,hg⟩:∃q,q=W1.heap.size:=⟨_,rfl⟩
   rw[<-hg]at hO2 hg0 hgo ⊢
   generalize W1.alloc (Obj.cells #[] 9)=W2 at KT2 rO hO2 hHeld ⊢
   clear hg
   refine rdy 3 fun K hK=>?_
   refine wp_src (.tmp 6) (.tmp 8) 22 rfl W.heap.size 9 i0 (.string ByteArray.empty) 1 16 X.und_strs hi hz0 hz1 hz2 rfl (by decide) g0 rfl hO2 fa fn fc (strs ns) rfl (by rw[X.strs_len,HN.out.2]) (strs_src ((HL.out.1.kept HK.out).kept KT2)) (X.strs_one ns) (by unfold maxLen;omega) (by omega) KT2.size ?_
   intro g cap W3 own3 hg2
   have KT3:Kept W W3:=Below.grown KT2 hg2 KT2.size (fun k hk=>by simp at hk;omega)
   have rO:=rO.block (hg2.block o rO.lt (fun e=>by simp at e;exact hgo e))
   refine hK.out _ _ (sS.out _ KT3) (fun hHeld=>?_)
   clear hK K hg2 hO2 KT2 hgo
   go_simp
   refine tk 8 hHeld ?_
   refine rdy 10 fun K hK=>?_
   have o0:=rO.cell 0 (.slice none 0 0)
   have o1:=rO.cell 1 (.slice none 0 0)
   have o2:=rO.cell 2 (.int .i64 0)
   have o3:=rO.cell 3 (.int .i64 0)
   have o4:=rO.cell 4 (.int .i64 0)
   have oz:=rO.fz
   go_simp
   refine hK.out _ _ (sS.out _ (set5_kept KT3 ho3)) (fun hHeld=>?_)
   clear hK K hHeld
   have HQ:=hid' (And.intro (And.intro (set5_kept (v0:=.slice (some ⟨g,0,none⟩) fn cap) (v1:=.slice none 0 0) (v2:=.int .i64 fm) (v3:=.int .i64 fx) (v4:=.int .i64 fk) KT3 ho3) ho3) (And.intro (set5_row (v0:=.slice (some ⟨g,0,none⟩) fn cap) (v1:=.slice none 0 0) (v2:=.int .i64 fm) (v3:=.int .i64 fx) (v4:=.int .i64 fk) rO) (set5_own (v0:=.slice (some ⟨g,0,none⟩) fn cap) (v1:=.slice none 0 0) (v2:=.int .i64 fm) (v3:=.int .i64 fx) (v4:=.int .i64 fk) own3 (own_row own3 rO (by decide)))))
   clear o0 o1 o2 o3 o4 oz rO own3 KT3
   refine _root_.Go.Proofs.YtdjhmgmjiglcbaaGreatDoor.dn ?_
   go_wp2_with fail
   go_meet
   case rel=>exact⟨o,g,cap,rfl,HQ.out.1,HQ.out.2.1,by have:=HQ.out.2.2;unfold OwnS;rw[<-HN.out.2];exact this⟩
 obtain⟨o,gn,cn,rfl,HC⟩:=hcut
 have hoB:=HC.out.1.2
 obtain⟨B,hB⟩:∃B,B=W.heap.size:=⟨_,rfl⟩
 have HI:=hid' (And.intro (HK.out.trans HC.out.1.1) (And.intro (HP.out.kept HC.out.1.1) (And.intro (HRB.out.kept HC.out.1.1) (And.intro HC.out.2.1 (And.intro (show OwnS B wc _ ns by rw[hB];exact HC.out.2.2) (show B<=wc.heap.size by rw[hB];exact HC.out.1.1.size))))))
 have HB:=hid' (And.intro (show p<B by rw[hB];exact HP.out.lt) (And.intro (show rb<B by rw[hB];exact HRB.out.lt) (And.intro (show B<=o by rw[hB];exact hoB) (show w.heap.size<=B by rw[hB];exact HK.out.size))))
 clear HC hoB hB HK HP HRB
 obtain⟨i1,hj,hy0,hy1,hy2⟩:=info_parts info_i64
 obtain⟨i2,hm,hx0,hx1,hx2⟩:=info_parts info_num
 obtain⟨i3,hd,hw0,hw1,hw2⟩:=info_parts info_dev
 go_wp2_with fail
 go_loopw [4] (fun v4 wr=>∃(i:Nat) (ev:Value) (es:List DE),i<=dn/\v4=.int .i64 (i:Int)/\Hid ((Kept w wr/\RowL 27 wr p [.slice fa fn fc,.slice da dn dc,.int .i64 fm,.int .i64 fx,.int .i64 fk]/\RowL 27 wr rb [.slice none 0 0,.slice none 0 0,.int .i64 0,.int .i64 0,.int .i64 0]/\RowL 27 wr o [.slice (some ⟨gn,0,none⟩) fn cn,ev,.int .i64 fm,.int .i64 fx,.int .i64 fk]/\OwnS B wr (.slice (some ⟨gn,0,none⟩) fn cn) ns/\B<=wr.heap.size)/\OwnD B wr ev es/\(∀d∈es,d.own B wr)/\es.map DE.bare=(ds.take i).map DE.bare)) (fun v4 _=>dn-(intOf v4).toNat)
 case atStart=>exact⟨0,.slice none 0 0,[],Nat.zero_le _,rfl,HI.out,World.ownsRow_nil _ _ _ _,fun d hd=>by simp at hd,rfl⟩
 case round=>
  obtain⟨i,ev,es,hil,rfl,H⟩:=hrel
  clear HI
  have f1:=H.out.1.2.1.cell 1 (.slice da dn dc)
  by_cases hit:i<dn
  ·have hii:(i:Int)<(dn:Int):=by omega
   have hi0:(0:Int)<=(i:Int):=by omega
   have hiL:i<ds.length:=by have:=HN.out.1;omega
   obtain⟨b,off,rfl,hV⟩:=dev_raw HL.out.2.1 i hiL
   have hmem:ds[i]∈ds:=List.getElem_mem hiL
   have HOK:=hid' (And.intro (HL.out.2.1.2 _ hmem) (HL.out.2.2 _ hmem))
   have HTK:=hid' (show (ds.take (i+1)).map DE.bare=(ds.take i).map DE.bare++[ds[i].bare] by rw[List.take_succ_eq_append_getElem hiL,List.map_append];rfl)
   generalize ds[i]=Dv at hV HOK HTK
   clear hmem
   obtain⟨e0,e1,e2,e3,e4,e5,e6,e7,e8,e9,e10,e11,e12⟩:=hV wr H.out.1.1
   clear hV
   have KC:=(Kept.refl wr).alloc (.cells #[.int .u8 Dv.kind,.string (X.bs Dv.name),.slice Dv.an Dv.nodes.length Dv.cn,.int .i64 Dv.ref,.int .i64 Dv.vm,.int .i64 Dv.vx,.int .i64 Dv.wk,.slice Dv.av Dv.wv.length Dv.cv,.slice Dv.ai Dv.ws.length Dv.ci,.string (X.bs Dv.md.name),.int .u8 Dv.md.kind,.slice Dv.a1 Dv.md.gs.length Dv.c1,.slice Dv.a2 Dv.md.vs.length Dv.c2] 48)
   have rQ:=RowL.alloc 48 wr [.int .u8 Dv.kind,.string (X.bs Dv.name),.slice Dv.an Dv.nodes.length Dv.cn,.int .i64 Dv.ref,.int .i64 Dv.vm,.int .i64 Dv.vx,.int .i64 Dv.wk,.slice Dv.av Dv.wv.length Dv.cv,.slice Dv.ai Dv.ws.length Dv.ci,.string (X.bs Dv.md.name),.int .u8 Dv.md.kind,.slice Dv.a1 Dv.md.gs.length Dv.c1,.slice Dv.a2 Dv.md.vs.length Dv.c2]
   go_upto_region 6 with fail
   generalize wr.alloc (.cells #[.int .u8 Dv.kind,.string (X.bs Dv.name),.slice Dv.an Dv.nodes.length Dv.cn,.int .i64 Dv.ref,.int .i64 Dv.vm,.int .i64 Dv.vx,.int .i64 Dv.wk,.slice Dv.av Dv.wv.length Dv.cv,.slice Dv.ai Dv.ws.length Dv.ci,.string (X.bs Dv.md.name),.int .u8 Dv.md.kind,.slice Dv.a1 Dv.md.gs.length Dv.c1,.slice Dv.a2 Dv.md.vs.length Dv.c2] 48)=W5 at KC rQ ⊢
   obtain⟨q,hq⟩:∃q,q=wr.heap.size:=⟨_,rfl⟩
   have hqs:wr.heap.size<=q:=by omega
   rw[<-hq]at rQ ⊢
   have HKC:=hid' KC
   have HRQ:=hid' rQ
   clear KC rQ hq f1 e0 e1 e2 e3 e4 e5 e6 e7 e8 e9 e10 e11 e12
   have hO:=own_none 3 1 W5 wr.heap.size HKC.out.size
   have KA:=HKC.out.alloc (Obj.cells #[] 3)
   have rA:=HRQ.out.kept ((Kept.refl _).alloc (Obj.cells #[] 3))
   have cA:=rA.cell 2 (.slice Dv.an Dv.nodes.length Dv.cn)
   have hfit:=HOK.out.2.nodes
   go_wp2_with (at_builtin;refine wpList_src rfl (.tmp 27) (.tmp 29) 31 rfl wr.heap.size 3 i1 (.int .i64 0) 1 8 und_ints hj hy0 hy1 hy2 rfl (by decide) W5.heap.size rfl hO Dv.an Dv.nodes.length Dv.cn (Dv.nodes.map (Value.int .i64)) rfl (by simp) (isl_src (((HOK.out.1.nodes.kept H.out.1.1).kept KA))) (fun u hu=>by simp at hu;obtain⟨x,_,rfl⟩:=hu;rfl) (by unfold maxLen;omega) (by omega) KA.size ?_)
   intro g6 p6 W6a own6 hg6
   have hWs:=HKC.out.size
   have KN:Kept wr W6a:=Below.grown KA hg6 KA.size (fun k hk=>by simp at hk;omega)
   have hqW:=HRQ.out.lt
   have rN:=rA.block (hg6.block q rA.lt (fun e=>by simp at e;omega))
   have cN:=rN.cell 2 (.slice Dv.an Dv.nodes.length Dv.cn)
   have zN:=rN.fz
   clear hO KA rA cA hg6 hWs hqW hfit
   go_upto_region 7 with fail
   have HKC:=hid' (KN.setCell (p:=⟨q,2,none⟩) hqs (.slice (some ⟨g6,0,none⟩) Dv.nodes.length p6))
   have HRQ:=hid' (show RowL 48 _ q [.int .u8 Dv.kind,.string (X.bs Dv.name),.slice (some ⟨g6,0,none⟩) Dv.nodes.length p6,.int .i64 Dv.ref,.int .i64 Dv.vm,.int .i64 Dv.vx,.int .i64 Dv.wk,.slice Dv.av Dv.wv.length Dv.cv,.slice Dv.ai Dv.ws.length Dv.ci,.string (X.bs Dv.md.name),.int .u8 Dv.md.kind,.slice Dv.a1 Dv.md.gs.length Dv.c1,.slice Dv.a2 Dv.md.vs.length Dv.c2] from rN.set 2 (.slice (some ⟨g6,0,none⟩) Dv.nodes.length p6))
   have ow6:=ownsRow_setCell_other own6 (a:=⟨q,2,none⟩) (own_row own6 rN (by decide)) (.slice (some ⟨g6,0,none⟩) Dv.nodes.length p6)
   generalize W6a.setCell ⟨q,2,none⟩ (.slice (some ⟨g6,0,none⟩) Dv.nodes.length p6)=W6 at HKC HRQ ow6 ⊢
   clear KN rN cN zN own6
   have hO:=own_none 25 2 W6 wr.heap.size HKC.out.size
   have KA:=HKC.out.alloc (Obj.cells #[] 25)
   have rA:=HRQ.out.kept ((Kept.refl _).alloc (Obj.cells #[] 25))
   have cA:=rA.cell 7 (.slice Dv.av Dv.wv.length Dv.cv)
   have hfit:=HOK.out.2.wv
   go_wp2_with (at_builtin;refine wpList_src rfl (.tmp 32) (.tmp 35) 42 rfl wr.heap.size 25 i2 (.agg #[.int .i64 0,.int .i64 0]) 2 16 und_nums hm hx0 hx1 hx2 rfl (by decide) W6.heap.size rfl hO Dv.av Dv.wv.length Dv.cv (ncs Dv.wv) rfl (ncs_len _) (nsl_src (((HOK.out.1.wv.kept H.out.1.1).kept KA))) (ncs_one _) (by unfold maxLen;omega) (by omega) KA.size ?_)
   intro g7 p7 W7a own7 hg7
   have hWs:=HKC.out.size
   have KN:Kept wr W7a:=Below.grown KA hg7 KA.size (fun k hk=>by simp at hk;omega)
   have hqW:=HRQ.out.lt
   have rN:=rA.block (hg7.block q rA.lt (fun e=>by simp at e;omega))
   have cN:=rN.cell 7 (.slice Dv.av Dv.wv.length Dv.cv)
   have zN:=rN.fz
   have ow6:=own_kept ow6 (fun b hb=>((hg7.block b (Nat.lt_of_lt_of_le (World.ownsRow.lt ow6 b hb).2 ((Kept.refl W6).alloc (Obj.cells #[] 25)).size) (fun e=>by simp at e;have:=(World.ownsRow.lt ow6 b hb).2;omega)).trans (((Kept.refl W6).alloc (Obj.cells #[] 25)).block b (World.ownsRow.lt ow6 b hb).2)))
   clear hO KA rA cA hg7 hWs hqW hfit
   go_upto_region 8 with fail
   have HKC:=hid' (KN.setCell (p:=⟨q,7,none⟩) hqs (.slice (some ⟨g7,0,none⟩) Dv.wv.length p7))
   have HRQ:=hid' (show RowL 48 _ q [.int .u8 Dv.kind,.string (X.bs Dv.name),.slice (some ⟨g6,0,none⟩) Dv.nodes.length p6,.int .i64 Dv.ref,.int .i64 Dv.vm,.int .i64 Dv.vx,.int .i64 Dv.wk,.slice (some ⟨g7,0,none⟩) Dv.wv.length p7,.slice Dv.ai Dv.ws.length Dv.ci,.string (X.bs Dv.md.name),.int .u8 Dv.md.kind,.slice Dv.a1 Dv.md.gs.length Dv.c1,.slice Dv.a2 Dv.md.vs.length Dv.c2] from rN.set 7 (.slice (some ⟨g7,0,none⟩) Dv.wv.length p7))
   have ow6:=ownsRow_setCell_other ow6 (a:=⟨q,7,none⟩) (own_row ow6 rN (by decide)) (.slice (some ⟨g7,0,none⟩) Dv.wv.length p7)
   have ow7:=ownsRow_setCell_other own7 (a:=⟨q,7,none⟩) (own_row own7 rN (by decide)) (.slice (some ⟨g7,0,none⟩) Dv.wv.length p7)
   generalize W7a.setCell ⟨q,7,none⟩ (.slice (some ⟨g7,0,none⟩) Dv.wv.length p7)=W7 at HKC HRQ ow6 ow7 ⊢
   clear KN rN cN zN own7
   have hO:=own_none 3 1 W7 wr.heap.size HKC.out.size
   have KA:=HKC.out.alloc (Obj.cells #[] 3)
   have rA:=HRQ.out.kept ((Kept.refl _).alloc (Obj.cells #[] 3))
   have cA:=rA.cell 8 (.slice Dv.ai Dv.ws.length Dv.ci)
   have hfit:=HOK.out.2.ws
   go_wp2_with (at_builtin;refine wpList_src rfl (.tmp 39) (.tmp 42) 31 rfl wr.heap.size 3 i1 (.int .i64 0) 1 8 und_ints hj hy0 hy1 hy2 rfl (by decide) W7.heap.size rfl hO Dv.ai Dv.ws.length Dv.ci (Dv.ws.map (Value.int .i64)) rfl (by simp) (isl_src (((HOK.out.1.ws.kept H.out.1.1).kept KA))) (fun u hu=>by simp at hu;obtain⟨x,_,rfl⟩:=hu;rfl) (by unfold maxLen;omega) (by omega) KA.size ?_)
   intro g8 p8 W8a own8 hg8
   have hWs:=HKC.out.size
   have KN:Kept wr W8a:=Below.grown KA hg8 KA.size (fun k hk=>by simp at hk;omega)
   have hqW:=HRQ.out.lt
   have rN:=rA.block (hg8.block q rA.lt (fun e=>by simp at e;omega))
   have cN:=rN.cell 8 (.slice Dv.ai Dv.ws.length Dv.ci)
   have zN:=rN.fz
   have ow6:=own_kept ow6 (fun b hb=>((hg8.block b (Nat.lt_of_lt_of_le (World.ownsRow.lt ow6 b hb).2 ((Kept.refl W7).alloc (Obj.cells #[] 3)).size) (fun e=>by simp at e;have:=(World.ownsRow.lt ow6 b hb).2;omega)).trans (((Kept.refl W7).alloc (Obj.cells #[] 3)).block b (World.ownsRow.lt ow6 b hb).2)))
   have ow7:=own_kept ow7 (fun b hb=>((hg8.block b (Nat.lt_of_lt_of_le (World.ownsRow.lt ow7 b hb).2 ((Kept.refl W7).alloc (Obj.cells #[] 3)).size) (fun e=>by simp at e;have:=(World.ownsRow.lt ow7 b hb).2;omega)).trans (((Kept.refl W7).alloc (Obj.cells #[] 3)).block b (World.ownsRow.lt ow7 b hb).2)))
   clear hO KA rA cA hg8 hWs hqW hfit
   go_upto_region 9 with fail
   have HKC:=hid' (KN.setCell (p:=⟨q,8,none⟩) hqs (.slice (some ⟨g8,0,none⟩) Dv.ws.length p8))
   have HRQ:=hid' (show RowL 48 _ q [.int .u8 Dv.kind,.string (X.bs Dv.name),.slice (some ⟨g6,0,none⟩) Dv.nodes.length p6,.int .i64 Dv.ref,.int .i64 Dv.vm,.int .i64 Dv.vx,.int .i64 Dv.wk,.slice (some ⟨g7,0,none⟩) Dv.wv.length p7,.slice (some ⟨g8,0,none⟩) Dv.ws.length p8,.string (X.bs Dv.md.name),.int .u8 Dv.md.kind,.slice Dv.a1 Dv.md.gs.length Dv.c1,.slice Dv.a2 Dv.md.vs.length Dv.c2] from rN.set 8 (.slice (some ⟨g8,0,none⟩) Dv.ws.length p8))
   have ow6:=ownsRow_setCell_other ow6 (a:=⟨q,8,none⟩) (own_row ow6 rN (by decide)) (.slice (some ⟨g8,0,none⟩) Dv.ws.length p8)
   have ow7:=ownsRow_setCell_other ow7 (a:=⟨q,8,none⟩) (own_row ow7 rN (by decide)) (.slice (some ⟨g8,0,none⟩) Dv.ws.length p8)
   have ow8:=ownsRow_setCell_other own8 (a:=⟨q,8,none⟩) (own_row own8 rN (by decide)) (.slice (some ⟨g8,0,none⟩) Dv.ws.length p8)
   generalize W8a.setCell ⟨q,8,none⟩ (.slice (some ⟨g8,0,none⟩) Dv.ws.length p8)=W8 at HKC HRQ ow6 ow7 ow8 ⊢
   clear KN rN cN zN own8
   have hO:=own_none 25 2 W8 wr.heap.size HKC.out.size
   have KA:=HKC.out.alloc (Obj.cells #[] 25)
   have rA:=HRQ.out.kept ((Kept.refl _).alloc (Obj.cells #[] 25))
   have cA:=rA.cell 11 (.slice Dv.a1 Dv.md.gs.length Dv.c1)
   have hfit:=HOK.out.2.gs
   go_wp2_with (at_builtin;refine wpList_src rfl (.tmp 46) (.tmp 49) 42 rfl wr.heap.size 25 i2 (.agg #[.int .i64 0,.int .i64 0]) 2 16 und_nums hm hx0 hx1 hx2 rfl (by decide) W8.heap.size rfl hO Dv.a1 Dv.md.gs.length Dv.c1 (ncs Dv.md.gs) rfl (ncs_len _) (nsl_src (((HOK.out.1.gs.kept H.out.1.1).kept KA))) (ncs_one _) (by unfold maxLen;omega) (by omega) KA.size ?_)
   intro g9 p9 W9a own9 hg9
   have hWs:=HKC.out.size
   have KN:Kept wr W9a:=Below.grown KA hg9 KA.size (fun k hk=>by simp at hk;omega)
   have hqW:=HRQ.out.lt
   have rN:=rA.block (hg9.block q rA.lt (fun e=>by simp at e;omega))
   have cN:=rN.cell 11 (.slice Dv.a1 Dv.md.gs.length Dv.c1)
   have zN:=rN.fz
   have ow6:=own_kept ow6 (fun b hb=>((hg9.block b (Nat.lt_of_lt_of_le (World.ownsRow.lt ow6 b hb).2 ((Kept.refl W8).alloc (Obj.cells #[] 25)).size) (fun e=>by simp at e;have:=(World.ownsRow.lt ow6 b hb).2;omega)).trans (((Kept.refl W8).alloc (Obj.cells #[] 25)).block b (World.ownsRow.lt ow6 b hb).2)))
   have ow7:=own_kept ow7 (fun b hb=>((hg9.block b (Nat.lt_of_lt_of_le (World.ownsRow.lt ow7 b hb).2 ((Kept.refl W8).alloc (Obj.cells #[] 25)).size) (fun e=>by simp at e;have:=(World.ownsRow.lt ow7 b hb).2;omega)).trans (((Kept.refl W8).alloc (Obj.cells #[] 25)).block b (World.ownsRow.lt ow7 b hb).2)))
   have ow8:=own_kept ow8 (fun b hb=>((hg9.block b (Nat.lt_of_lt_of_le (World.ownsRow.lt ow8 b hb).2 ((Kept.refl W8).alloc (Obj.cells #[] 25)).size) (fun e=>by simp at e;have:=(World.ownsRow.lt ow8 b hb).2;omega)).trans (((Kept.refl W8).alloc (Obj.cells #[] 25)).block b (World.ownsRow.lt ow8 b hb).2)))
   clear hO KA rA cA hg9 hWs hqW hfit
   go_upto_region 10 with fail
   have HKC:=hid' (KN.setCell (p:=⟨q,11,none⟩) hqs (.slice (some ⟨g9,0,none⟩) Dv.md.gs.length p9))
   have HRQ:=hid' (show RowL 48 _ q [.int .u8 Dv.kind,.string (X.bs Dv.name),.slice (some ⟨g6,0,none⟩) Dv.nodes.length p6,.int .i64 Dv.ref,.int .i64 Dv.vm,.int .i64 Dv.vx,.int .i64 Dv.wk,.slice (some ⟨g7,0,none⟩) Dv.wv.length p7,.slice (some ⟨g8,0,none⟩) Dv.ws.length p8,.string (X.bs Dv.md.name),.int .u8 Dv.md.kind,.slice (some ⟨g9,0,none⟩) Dv.md.gs.length p9,.slice Dv.a2 Dv.md.vs.length Dv.c2] from rN.set 11 (.slice (some ⟨g9,0,none⟩) Dv.md.gs.length p9))
   have ow6:=ownsRow_setCell_other ow6 (a:=⟨q,11,none⟩) (own_row ow6 rN (by decide)) (.slice (some ⟨g9,0,none⟩) Dv.md.gs.length p9)
   have ow7:=ownsRow_setCell_other ow7 (a:=⟨q,11,none⟩) (own_row ow7 rN (by decide)) (.slice (some ⟨g9,0,none⟩) Dv.md.gs.length p9)
   have ow8:=ownsRow_setCell_other ow8 (a:=⟨q,11,none⟩) (own_row ow8 rN (by decide)) (.slice (some ⟨g9,0,none⟩) Dv.md.gs.length p9)
   have ow9:=ownsRow_setCell_other own9 (a:=⟨q,11,none⟩) (own_row own9 rN (by decide)) (.slice (some ⟨g9,0,none⟩) Dv.md.gs.length p9)
   generalize W9a.setCell ⟨q,11,none⟩ (.slice (some ⟨g9,0,none⟩) Dv.md.gs.length p9)=W9 at HKC HRQ ow6 ow7 ow8 ow9 ⊢
   clear KN rN cN zN own9
   have hO:=own_none 25 2 W9 wr.heap.size HKC.out.size
   have KA:=HKC.out.alloc (Obj.cells #[] 25)
   have rA:=HRQ.out.kept ((Kept.refl _).alloc (Obj.cells #[] 25))
   have cA:=rA.cell 12 (.slice Dv.a2 Dv.md.vs.length Dv.c2)
   have hfit:=HOK.out.2.vs
   go_wp2_with (at_builtin;refine wpList_src rfl (.tmp 53) (.tmp 56) 42 rfl wr.heap.size 25 i2 (.agg #[.int .i64 0,.int .i64 0]) 2 16 und_nums hm hx0 hx1 hx2 rfl (by decide) W9.heap.size rfl hO Dv.a2 Dv.md.vs.length Dv.c2 (ncs Dv.md.vs) rfl (ncs_len _) (nsl_src (((HOK.out.1.vs.kept H.out.1.1).kept KA))) (ncs_one _) (by unfold maxLen;omega) (by omega) KA.size ?_)
   intro g10 p10 W10a own10 hg10
   have hWs:=HKC.out.size
   have KN:Kept wr W10a:=Below.grown KA hg10 KA.size (fun k hk=>by simp at hk;omega)
   have hqW:=HRQ.out.lt
   have rN:=rA.block (hg10.block q rA.lt (fun e=>by simp at e;omega))
   have cN:=rN.cell 12 (.slice Dv.a2 Dv.md.vs.length Dv.c2)
   have zN:=rN.fz
   have ow6:=own_kept ow6 (fun b hb=>((hg10.block b (Nat.lt_of_lt_of_le (World.ownsRow.lt ow6 b hb).2 ((Kept.refl W9).alloc (Obj.cells #[] 25)).size) (fun e=>by simp at e;have:=(World.ownsRow.lt ow6 b hb).2;omega)).trans (((Kept.refl W9).alloc (Obj.cells #[] 25)).block b (World.ownsRow.lt ow6 b hb).2)))
   have ow7:=own_kept ow7 (fun b hb=>((hg10.block b (Nat.lt_of_lt_of_le (World.ownsRow.lt ow7 b hb).2 ((Kept.refl W9).alloc (Obj.cells #[] 25)).size) (fun e=>by simp at e;have:=(World.ownsRow.lt ow7 b hb).2;omega)).trans (((Kept.refl W9).alloc (Obj.cells #[] 25)).block b (World.ownsRow.lt ow7 b hb).2)))
   have ow8:=own_kept ow8 (fun b hb=>((hg10.block b (Nat.lt_of_lt_of_le (World.ownsRow.lt ow8 b hb).2 ((Kept.refl W9).alloc (Obj.cells #[] 25)).size) (fun e=>by simp at e;have:=(World.ownsRow.lt ow8 b hb).2;omega)).trans (((Kept.refl W9).alloc (Obj.cells #[] 25)).block b (World.ownsRow.lt ow8 b hb).2)))
   have ow9:=own_kept ow9 (fun b hb=>((hg10.block b (Nat.lt_of_lt_of_le (World.ownsRow.lt ow9 b hb).2 ((Kept.refl W9).alloc (Obj.cells #[] 25)).size) (fun e=>by simp at e;have:=(World.ownsRow.lt ow9 b hb).2;omega)).trans (((Kept.refl W9).alloc (Obj.cells #[] 25)).block b (World.ownsRow.lt ow9 b hb).2)))
   clear hO KA rA cA hg10 hWs hqW hfit
   go_upto_region 11 with fail
   have HKC:=hid' (KN.setCell (p:=⟨q,12,none⟩) hqs (.slice (some ⟨g10,0,none⟩) Dv.md.vs.length p10))
   have HRQ:=hid' (show RowL 48 _ q [.int .u8 Dv.kind,.string (X.bs Dv.name),.slice (some ⟨g6,0,none⟩) Dv.nodes.length p6,.int .i64 Dv.ref,.int .i64 Dv.vm,.int .i64 Dv.vx,.int .i64 Dv.wk,.slice (some ⟨g7,0,none⟩) Dv.wv.length p7,.slice (some ⟨g8,0,none⟩) Dv.ws.length p8,.string (X.bs Dv.md.name),.int .u8 Dv.md.kind,.slice (some ⟨g9,0,none⟩) Dv.md.gs.length p9,.slice (some ⟨g10,0,none⟩) Dv.md.vs.length p10] from rN.set 12 (.slice (some ⟨g10,0,none⟩) Dv.md.vs.length p10))
   have ow6:=ownsRow_setCell_other ow6 (a:=⟨q,12,none⟩) (own_row ow6 rN (by decide)) (.slice (some ⟨g10,0,none⟩) Dv.md.vs.length p10)
   have ow7:=ownsRow_setCell_other ow7 (a:=⟨q,12,none⟩) (own_row ow7 rN (by decide)) (.slice (some ⟨g10,0,none⟩) Dv.md.vs.length p10)
   have ow8:=ownsRow_setCell_other ow8 (a:=⟨q,12,none⟩) (own_row ow8 rN (by decide)) (.slice (some ⟨g10,0,none⟩) Dv.md.vs.length p10)
   have ow9:=ownsRow_setCell_other ow9 (a:=⟨q,12,none⟩) (own_row ow9 rN (by decide)) (.slice (some ⟨g10,0,none⟩) Dv.md.vs.length p10)
   have ow10:=ownsRow_setCell_other own10 (a:=⟨q,12,none⟩) (own_row own10 rN (by decide)) (.slice (some ⟨g10,0,none⟩) Dv.md.vs.length p10)
   generalize W10a.setCell ⟨q,12,none⟩ (.slice (some ⟨g10,0,none⟩) Dv.md.vs.length p10)=W10 at HKC HRQ ow6 ow7 ow8 ow9 ow10 ⊢
   clear KN rN cN zN own10
   have hel:es.length<dn:=by
    have:=congrArg List.length H.out.2.2.2
    rw[List.length_map,List.length_map,List.length_take]at this
    have:=HN.out.1
    omega
   have rO:=H.out.1.2.2.2.1.kept HKC.out
   have hD0:OwnD B W10 ev es:=own_kept H.out.2.1 (fun b hb=>HKC.out.block b (World.ownsRow.lt H.out.2.1 b hb).2)
   have hBw:B<=W10.heap.size:=Nat.le_trans H.out.1.2.2.2.2.2 HKC.out.size
   have c1:=rO.cell 1 ev
   have y0:=HRQ.out.cell 0 (.int .u8 Dv.kind)
   have y1:=HRQ.out.cell 1 (.string (X.bs Dv.name))
   have y2:=HRQ.out.cell 2 (.slice (some ⟨g6,0,none⟩) Dv.nodes.length p6)
   have y3:=HRQ.out.cell 3 (.int .i64 Dv.ref)
   have y4:=HRQ.out.cell 4 (.int .i64 Dv.vm)
   have y5:=HRQ.out.cell 5 (.int .i64 Dv.vx)
   have y6:=HRQ.out.cell 6 (.int .i64 Dv.wk)
   have y7:=HRQ.out.cell 7 (.slice (some ⟨g7,0,none⟩) Dv.wv.length p7)
   have y8:=HRQ.out.cell 8 (.slice (some ⟨g8,0,none⟩) Dv.ws.length p8)
   have y9:=HRQ.out.cell 9 (.string (X.bs Dv.md.name))
   have y10:=HRQ.out.cell 10 (.int .u8 Dv.md.kind)
   have y11:=HRQ.out.cell 11 (.slice (some ⟨g9,0,none⟩) Dv.md.gs.length p9)
   have y12:=HRQ.out.cell 12 (.slice (some ⟨g10,0,none⟩) Dv.md.vs.length p10)
   go_wp2_with (at_builtin;refine wpList_append_lies _ rfl (.tmp 61) (.tmp 63) 23 rfl B 48 i3 _ 13 200 und_devs hd hw0 hw1 hw2 rfl (by decide) ev es.length (es.flatMap DE.cells) rfl (by exact World.ownsRow.alloc hD0 _) ⟨W10.heap.size,0,none⟩ 1 1 [.int .u8 Dv.kind,.string (X.bs Dv.name),.slice (some ⟨g6,0,none⟩) Dv.nodes.length p6,.int .i64 Dv.ref,.int .i64 Dv.vm,.int .i64 Dv.vx,.int .i64 Dv.wk,.slice (some ⟨g7,0,none⟩) Dv.wv.length p7,.slice (some ⟨g8,0,none⟩) Dv.ws.length p8,.string (X.bs Dv.md.name),.int .u8 Dv.md.kind,.slice (some ⟨g9,0,none⟩) Dv.md.gs.length p9,.slice (some ⟨g10,0,none⟩) Dv.md.vs.length p10] rfl rfl (news_at 48 W10 [.int .u8 Dv.kind,.string (X.bs Dv.name),.slice (some ⟨g6,0,none⟩) Dv.nodes.length p6,.int .i64 Dv.ref,.int .i64 Dv.vm,.int .i64 Dv.vx,.int .i64 Dv.wk,.slice (some ⟨g7,0,none⟩) Dv.wv.length p7,.slice (some ⟨g8,0,none⟩) Dv.ws.length p8,.string (X.bs Dv.md.name),.int .u8 Dv.md.kind,.slice (some ⟨g9,0,none⟩) Dv.md.gs.length p9,.slice (some ⟨g10,0,none⟩) Dv.md.vs.length p10]) (fun u hu=>by simp only[List.mem_cons,List.not_mem_nil,or_false]at hu;rcases hu with rfl|rfl|rfl|rfl|rfl|rfl|rfl|rfl|rfl|rfl|rfl|rfl|rfl <;> rfl) (by omega) (by unfold maxLen;omega) (by omega) (by simp;omega) _ rfl ?_)
   intro g11 p11 W11 own4 hg4 hgg _
   have KA:=(Kept.refl W10).alloc (.cells #[.int .u8 Dv.kind,.string (X.bs Dv.name),.slice (some ⟨g6,0,none⟩) Dv.nodes.length p6,.int .i64 Dv.ref,.int .i64 Dv.vm,.int .i64 Dv.vx,.int .i64 Dv.wk,.slice (some ⟨g7,0,none⟩) Dv.wv.length p7,.slice (some ⟨g8,0,none⟩) Dv.ws.length p8,.string (X.bs Dv.md.name),.int .u8 Dv.md.kind,.slice (some ⟨g9,0,none⟩) Dv.md.gs.length p9,.slice (some ⟨g10,0,none⟩) Dv.md.vs.length p10] 48)
   have hDA:OwnD B _ ev es:=World.ownsRow.alloc hD0 (.cells #[.int .u8 Dv.kind,.string (X.bs Dv.name),.slice (some ⟨g6,0,none⟩) Dv.nodes.length p6,.int .i64 Dv.ref,.int .i64 Dv.vm,.int .i64 Dv.vx,.int .i64 Dv.wk,.slice (some ⟨g7,0,none⟩) Dv.wv.length p7,.slice (some ⟨g8,0,none⟩) Dv.ws.length p8,.string (X.bs Dv.md.name),.int .u8 Dv.md.kind,.slice (some ⟨g9,0,none⟩) Dv.md.gs.length p9,.slice (some ⟨g10,0,none⟩) Dv.md.vs.length p10] 48)
   have sG:=sameT_grown hDA hg4
   have hbk:∀k,ev.ownBlock=some k->B<=k:=fun k hk=>(World.ownsRow.lt hD0 k hk).1
   have rO1:=(rO.kept KA).block (hg4.block o (rO.kept KA).lt (fun e=>own_row hDA (rO.kept KA) (by decide) e.symm))
   have rP:=(H.out.1.2.1.kept HKC.out).kept KA
   have rP1:=rP.block (hg4.block p rP.lt (fun e=>by have:=hbk p e.symm;have:=HB.out.1;omega))
   have rR:=(H.out.1.2.2.1.kept HKC.out).kept KA
   have rR1:=rR.block (hg4.block rb rR.lt (fun e=>by have:=hbk rb e.symm;have:=HB.out.2.1;omega))
   have nm:=own_kept H.out.1.2.2.2.2.1 (fun b hb=>(HKC.out.trans KA).block b (World.ownsRow.lt H.out.1.2.2.2.2.1 b hb).2)
   have nm1:=own_kept nm (fun b hb=>hg4.block b (World.ownsRow.lt nm b hb).2 (fun e=>own_apart nm hDA (by decide) b hb e.symm))
   have KW:Kept w W11:=Below.grown ((H.out.1.1.trans HKC.out).trans KA) hg4 ((H.out.1.1.trans HKC.out).trans KA).size (fun k hk=>Nat.le_trans HB.out.2.2.2 (hbk k hk))
   have sS2:=sameT_set (i:=1) (v:=.slice (some ⟨g11,0,none⟩) (es.length+1) p11) rO1 (by decide)
   have hDe:(⟨Dv.kind,Dv.name,Dv.nodes,some ⟨g6,0,none⟩,p6,Dv.ref,Dv.vm,Dv.vx,Dv.wk,Dv.wv,some ⟨g7,0,none⟩,p7,Dv.ws,some ⟨g8,0,none⟩,p8,Dv.md,some ⟨g9,0,none⟩,p9,some ⟨g10,0,none⟩,p10⟩:DE).own wr.heap.size W10:=⟨ow6,ow7,ow8,ow9,ow10⟩
   have hDe2:=(((hDe.same (Kept.sameT KA)).same sG).same sS2).mono H.out.1.2.2.2.2.2
   have hEs:∀d∈es,d.own B (W11.setCell ⟨o,1,none⟩ (.slice (some ⟨g11,0,none⟩) (es.length+1) p11)):=fun d hd=>(((((H.out.2.2.1 d hd).same (Kept.sameT HKC.out)).same (Kept.sameT KA)).same sG).same sS2)
   have hce:[.int .u8 Dv.kind,.string (X.bs Dv.name),.slice (some ⟨g6,0,none⟩) Dv.nodes.length p6,.int .i64 Dv.ref,.int .i64 Dv.vm,.int .i64 Dv.vx,.int .i64 Dv.wk,.slice (some ⟨g7,0,none⟩) Dv.wv.length p7,.slice (some ⟨g8,0,none⟩) Dv.ws.length p8,.string (X.bs Dv.md.name),.int .u8 Dv.md.kind,.slice (some ⟨g9,0,none⟩) Dv.md.gs.length p9,.slice (some ⟨g10,0,none⟩) Dv.md.vs.length p10]=DE.cells (⟨Dv.kind,Dv.name,Dv.nodes,some ⟨g6,0,none⟩,p6,Dv.ref,Dv.vm,Dv.vx,Dv.wk,Dv.wv,some ⟨g7,0,none⟩,p7,Dv.ws,some ⟨g8,0,none⟩,p8,Dv.md,some ⟨g9,0,none⟩,p9,some ⟨g10,0,none⟩,p10⟩:DE):=rfl
   rw[hce]at own4
   have oD:=ownD_snoc own4
   have hBo:=HB.out.2.2.1
   have HNX:=hid' (And.intro (And.intro (KW.setCell (p:=⟨o,1,none⟩) (Nat.le_trans HB.out.2.2.2 hBo) (.slice (some ⟨g11,0,none⟩) (es.length+1) p11)) (And.intro (rP1.far (q:=o) (fun e=>by have:=HB.out.1;omega) 1 (.slice (some ⟨g11,0,none⟩) (es.length+1) p11)) (And.intro (rR1.far (q:=o) (fun e=>by have:=HB.out.2.1;omega) 1 (.slice (some ⟨g11,0,none⟩) (es.length+1) p11)) (And.intro (rO1.set 1 (.slice (some ⟨g11,0,none⟩) (es.length+1) p11)) (And.intro (ownsRow_setCell_other nm1 (a:=⟨o,1,none⟩) (own_row nm1 rO1 (by decide)) (.slice (some ⟨g11,0,none⟩) (es.length+1) p11)) (show B<=(W11.setCell ⟨o,1,none⟩ (.slice (some ⟨g11,0,none⟩) (es.length+1) p11)).heap.size by have h1:=KA.size;have h2:=hg4.size;simp[World.setCell];omega)))))) (And.intro (show OwnD B _ _ _ from ownsRow_setCell_other oD (a:=⟨o,1,none⟩) (own_row oD rO1 (by decide)) (.slice (some ⟨g11,0,none⟩) (es.length+1) p11)) (And.intro hEs hDe2)))
   have o1:=rO1.cell 1 ev
   have oz:=rO1.fz
   clear KA hDA sG hbk rO1 rP rP1 rR rR1 nm nm1 KW sS2 hDe hDe2 hEs oD hce own4 hg4 hgg hD0 rO c1 y0 y1 y2 y3 y4 y5 y6 y7 y8 y9 y10 y11 y12
   go_wp2_with fail
   go_roundw
   case rel=>exact⟨i+1,_,es++[⟨Dv.kind,Dv.name,Dv.nodes,some ⟨g6,0,none⟩,p6,Dv.ref,Dv.vm,Dv.vx,Dv.wk,Dv.wv,some ⟨g7,0,none⟩,p7,Dv.ws,some ⟨g8,0,none⟩,p8,Dv.md,some ⟨g9,0,none⟩,p9,some ⟨g10,0,none⟩,p10⟩],by omega,by go_num,HNX.out.1,HNX.out.2.1,fun d hd=>by
    rcases List.mem_append.1 hd with hd|hd
    ·exact HNX.out.2.2.1 d hd
    ·rw[List.mem_singleton.1 hd];exact HNX.out.2.2.2,by rw[List.map_append,H.out.2.2.2,HTK.out];rfl⟩
   case measure=>show dn-((i:Int)+1).toNat<dn-(i:Int).toNat;omega
  ·have hii:¬(i:Int)<(dn:Int):=by omega
   obtain rfl:i=dn:=by omega
   obtain⟨ea,ecap,hev⟩:=own_shape H.out.2.1
   obtain⟨en,hen⟩:∃n,n=es.length:=⟨_,rfl⟩
   rw[<-hen]at hev
   subst hev
   clear hen
   have HES:=hid' (show es.map DE.bare=ds.map DE.bare by have:=H.out.2.2.2;rw[List.take_of_length_le (by have:=HN.out.1;omega)]at this;exact this)
   have o0:=H.out.1.2.2.2.1.cell 0 (.slice (some ⟨gn,0,none⟩) fn cn)
   have o1:=H.out.1.2.2.2.1.cell 1 (.slice ea en ecap)
   have o2:=H.out.1.2.2.2.1.cell 2 (.int .i64 fm)
   have o3:=H.out.1.2.2.2.1.cell 3 (.int .i64 fx)
   have o4:=H.out.1.2.2.2.1.cell 4 (.int .i64 fk)
   have s0:=H.out.1.2.2.1.cell 0 (.slice none 0 0)
   have s1:=H.out.1.2.2.1.cell 1 (.slice none 0 0)
   have s2:=H.out.1.2.2.1.cell 2 (.int .i64 0)
   have s3:=H.out.1.2.2.1.cell 3 (.int .i64 0)
   have s4:=H.out.1.2.2.1.cell 4 (.int .i64 0)
   have sz:=H.out.1.2.2.1.fz
   have rF:=set5_row (v0:=.slice (some ⟨gn,0,none⟩) fn cn) (v1:=.slice ea en ecap) (v2:=.int .i64 fm) (v3:=.int .i64 fx) (v4:=.int .i64 fk) H.out.1.2.2.1
   have HRS:=hid' (And.intro (set5_kept (v0:=.slice (some ⟨gn,0,none⟩) fn cn) (v1:=.slice ea en ecap) (v2:=.int .i64 fm) (v3:=.int .i64 fx) (v4:=.int .i64 fk) H.out.1.1 HPS.out.2) (And.intro (own_mono (set5_own (v0:=.slice (some ⟨gn,0,none⟩) fn cn) (v1:=.slice ea en ecap) (v2:=.int .i64 fm) (v3:=.int .i64 fx) (v4:=.int .i64 fk) H.out.1.2.2.2.2.1 (own_row H.out.1.2.2.2.2.1 H.out.1.2.2.1 (by decide))) HB.out.2.2.2) (own_mono (set5_own (v0:=.slice (some ⟨gn,0,none⟩) fn cn) (v1:=.slice ea en ecap) (v2:=.int .i64 fm) (v3:=.int .i64 fx) (v4:=.int .i64 fk) H.out.2.1 (own_row H.out.2.1 H.out.1.2.2.1 (by decide))) HB.out.2.2.2)))
   have HSM:=hid' (fun d hd=>(((((((H.out.2.2.1 d hd).same (sameT_set (i:=0) (v:=.slice (some ⟨gn,0,none⟩) fn cn) H.out.1.2.2.1 (by decide))).same (sameT_set (i:=1) (v:=.slice ea en ecap) (H.out.1.2.2.1.set 0 _) (by decide))).same (sameT_set (i:=2) (v:=.int .i64 fm) ((H.out.1.2.2.1.set 0 _).set 1 _) (by decide))).same (sameT_set (i:=3) (v:=.int .i64 fx) (((H.out.1.2.2.1.set 0 _).set 1 _).set 2 _) (by decide))).same (sameT_set (i:=4) (v:=.int .i64 fk) ((((H.out.1.2.2.1.set 0 _).set 1 _).set 2 _).set 3 _) (by decide))).mono HB.out.2.2.2))
   have d0:=rF.cell 0 (.slice (some ⟨gn,0,none⟩) fn cn)
   have d1:=rF.cell 1 (.slice ea en ecap)
   have d2:=rF.cell 2 (.int .i64 fm)
   have d3:=rF.cell 3 (.int .i64 fx)
   have d4:=rF.cell 4 (.int .i64 fk)
   clear rF
   go_wp2_with fail
   exact bodyPost_ret (v:=.agg #[.slice (some ⟨gn,0,none⟩) fn cn,.slice ea en ecap,.int .i64 fm,.int .i64 fx,.int .i64 fk]) (by simp[results,Tryz.results8,go_sem,d0,d1,d2,d3,d4]) rfl ⟨HRS.out.1,⟨gn,cn,_,es,rfl,HRS.out.2.1,HRS.out.2.2,HSM.out,HES.out⟩⟩
theorem Coarse.least {f g:Nat->Nat}(h:Coarse f g){a b:Nat}(hab:g a=g b):Coarse (joinH f a b) g:=by
 intro x y e
 unfold joinH at e
 by_cases hx:f x=f b
 ·rw[if_pos hx]at e
  by_cases hy:f y=f b
  ·exact(h x b hx).trans (h y b hy).symm
  ·rw[if_neg hy]at e
   exact(h x b hx).trans (hab.symm.trans (h a y e))
 ·rw[if_neg hx]at e
  by_cases hy:f y=f b
  ·rw[if_pos hy]at e
   exact(h x a e).trans (hab.trans (h y b hy).symm)
  ·rw[if_neg hy]at e
   exact h x y e
theorem joinH_joins (f:Nat->Nat)(a b:Nat):joinH f a b a=joinH f a b b:=by
 unfold joinH
 rw[if_pos rfl]
 split <;> rfl
def tiesOf (mo:Int)(d:DE):List (Nat×Nat):=(if tieAB d.kind mo=true then [(ndN d 0,ndN d 1)] else [])++(if tieCD d.kind=true then [(ndN d 2,ndN d 3)] else [])
def joinAll (f:Nat->Nat)(l:List (Nat×Nat)):Nat->Nat:=l.foldl (fun h p=>joinH h p.1 p.2) f
theorem joinAll_app (f:Nat->Nat)(a b:List (Nat×Nat)):joinAll f (a++b)=joinAll (joinAll f a) b:=List.foldl_append
theorem tied_all (mo:Int)(ds:List DE):∀f,ds.foldl (fun hd d=>tie2 (tie1 mo hd d) d) f=joinAll f (ds.flatMap (tiesOf mo)):=by
 induction ds with
 |nil=>exact fun f=>rfl
 |cons d r ih=>
  intro f
  rw[List.foldl_cons,ih,List.flatMap_cons,joinAll_app]
  congr 1
  unfold tiesOf tie2 tie1
  rw[joinAll_app]
  cases tieAB d.kind mo <;> cases tieCD d.kind <;> rfl
theorem joinAll_coarse (l:List (Nat×Nat)):∀f g,Coarse f g->(∀p∈l,g p.1=g p.2)->Coarse (joinAll f l) g:=by
 induction l with
 |nil=>exact fun f g h _=>h
 |cons p r ih=>
  intro f g h hp
  exact ih _ _ (h.least (hp p (List.mem_cons_self ..))) (fun q hq=>hp q (List.mem_cons_of_mem _ hq))
theorem joinAll_keeps (l:List (Nat×Nat)):∀f,Coarse f (joinAll f l):=by
 induction l with
 |nil=>exact fun f=>Coarse.refl f
 |cons p r ih=>
  intro f
  have h1:Coarse f (joinH f p.1 p.2):=(Coarse.refl f).more _ _
  exact fun x y e=>ih _ _ _ (h1 x y e)
theorem joinAll_joins (l:List (Nat×Nat)):∀f,∀p∈l,joinAll f l p.1=joinAll f l p.2:=by
 induction l with
 |nil=>exact fun f p hp=>by cases hp
 |cons q r ih=>
  intro f p hp
  rcases List.mem_cons.1 hp with rfl|hp
  ·exact joinAll_keeps r _ _ _ (joinH_joins f _ _)
  ·exact ih _ p hp
theorem joinAll_same {l m:List (Nat×Nat)}(h1:∀p∈l,p∈m)(h2:∀p∈m,p∈l)(x y:Nat):joinAll (fun x=>x) l x=joinAll (fun x=>x) l y↔joinAll (fun x=>x) m x=joinAll (fun x=>x) m y:=by
 have hid:∀g:Nat->Nat,Coarse (fun x=>x) g:=fun g x y e=>congrArg g e
 exact⟨joinAll_coarse l _ _ (hid _) (fun p hp=>joinAll_joins m _ p (h1 p hp)) x y,joinAll_coarse m _ _ (hid _) (fun p hp=>joinAll_joins l _ p (h2 p hp)) x y⟩
def Head (n:Nat)(f:Nat->Nat):Prop:=∀x,x<n->f x<n/\f (f x)=f x
theorem Head.join {n:Nat}{f:Nat->Nat}(h:Head n f){a b:Nat}(ha:a<n):Head n (joinH f a b):=by
 intro x hx
 have hA:=h a ha
 have hX:=h x hx
 unfold joinH
 by_cases e:f x=f b
 ·rw[if_pos e]
  refine⟨hA.1,?_⟩
  rw[hA.2]
  split <;> rfl
 ·rw[if_neg e,hX.2,if_neg e]
  exact⟨hX.1,rfl⟩
def fixN (n:Nat)(f:Nat->Nat):List Nat:=(List.range n).filter fun x=>decide (f x=x)
theorem mem_fix {n x:Nat}{f:Nat->Nat}:x∈fixN n f↔x<n/\f x=x:=by
 unfold fixN
 rw[List.mem_filter,List.mem_range,decide_eq_true_eq]
theorem nodup_range':∀n:Nat,(List.range n).Nodup
 |0=>List.nodup_nil
 |n+1=>by
  rw[List.range_succ,List.nodup_append]
  refine⟨nodup_range' n,by simp,fun a ha b hb=>?_⟩
  have:=List.mem_range.1 ha
  simp at hb
  omega
theorem nodup_fix (n:Nat)(f:Nat->Nat):(fixN n f).Nodup:=(nodup_range' n).sublist List.filter_sublist
theorem sub_len {l:List Nat}:∀ {m:List Nat},l.Nodup->(∀x∈l,x∈m)->l.length<=m.length:=by
 induction l with
 |nil=>exact fun _ _=>Nat.zero_le _
 |cons x r ih=>
  intro m hn hs
  have hx:=hs x (List.mem_cons_self ..)
  have h1:=List.nodup_cons.1 hn
  have h2:=ih (m:=m.erase x) h1.2 (fun y hy=>(List.mem_erase_of_ne (fun (e:y=x)=>h1.1 (e ▸ hy))).2 (hs y (List.mem_cons_of_mem _ hy)))
  have h3:=List.length_erase_of_mem hx
  have h4:0<m.length:=List.length_pos_of_mem hx
  simp only[List.length_cons]
  omega
theorem fix_le {n:Nat}{f g:Nat->Nat}(hg:Head n g)(h:∀x y,g x=g y->f x=f y):(fixN n f).length<=(fixN n g).length:=by
 have hm:((fixN n f).map g).length=(fixN n f).length:=List.length_map ..
 rw[<-hm]
 refine sub_len ?_ ?_
 ·rw[List.Nodup,List.pairwise_map]
  refine List.Pairwise.imp_of_mem ?_ (nodup_fix n f)
  intro a b ha hb hne e
  have:=h a b e
  rw[(mem_fix.1 ha).2,(mem_fix.1 hb).2]at this
  exact hne this
 ·intro x hx
  obtain⟨y,hy,rfl⟩:=List.mem_map.1 hx
  exact mem_fix.2 (hg y (mem_fix.1 hy).1)
def idle:(Nat->Nat)->List (Nat×Nat)->Nat
 |_,[]=>0
 |f,p::r=>(if f p.1=f p.2 then 1 else 0)+idle (joinH f p.1 p.2) r
theorem fix_join {n:Nat}{f:Nat->Nat}(h:Head n f){a b:Nat}(ha:a<n)(hb:b<n):(fixN n (joinH f a b)).length+(if f a=f b then 0 else 1)=(fixN n f).length:=by
 by_cases e:f a=f b
 ·rw[if_pos e,Nat.add_zero]
  have:joinH f a b=f:=by
   funext x
   unfold joinH
   split
   ·rename_i h1
    rw[h1,e]
   ·rfl
  rw[this]
 ·rw[if_neg e]
  have hB:=h b hb
  have hA:=h a ha
  have h1:(f b)∈fixN n f:=mem_fix.2 hB
  have h2:∀x,x∈fixN n (joinH f a b)↔x∈(fixN n f).erase (f b):=by
   intro x
   rw[(nodup_fix n f).mem_erase_iff,mem_fix,mem_fix]
   unfold joinH
   by_cases hx:f x=f b
   ·rw[if_pos hx]
    constructor
    ·rintro⟨_,h3⟩
     have:f x=f a:=by rw[<-h3,hA.2]
     exact absurd (this.symm.trans hx) e
    ·rintro⟨h3,_,h4⟩
     exact absurd (h4.symm.trans hx) h3
   ·rw[if_neg hx]
    constructor
    ·rintro⟨h3,h4⟩
     exact⟨fun h5=>hx (by rw[h5,hB.2]),h3,h4⟩
    ·rintro⟨_,h3,h4⟩
     exact⟨h3,h4⟩
  have hl:(fixN n (joinH f a b)).length=((fixN n f).erase (f b)).length :=
   Nat.le_antisymm (sub_len (nodup_fix n _) fun x hx=>(h2 x).1 hx) (sub_len ((nodup_fix n f).erase _) fun x hx=>(h2 x).2 hx)
  rw[hl,List.length_erase_of_mem h1]
  have:0<(fixN n f).length:=List.length_pos_of_mem h1
  omega
theorem idle_count {n:Nat}(l:List (Nat×Nat)):∀f,Head n f->(∀p∈l,p.1<n/\p.2<n)->idle f l+(fixN n f).length=l.length+(fixN n (joinAll f l)).length:=by
 induction l with
 |nil=>intro f _ _;simp[idle,joinAll]
 |cons p r ih=>
  intro f hf hl
  have hp:=hl p (List.mem_cons_self ..)
  have h1:=ih (joinH f p.1 p.2) (hf.join hp.1) (fun q hq=>hl q (List.mem_cons_of_mem _ hq))
  have h2:=fix_join hf hp.1 hp.2
  show (if f p.1=f p.2 then 1 else 0)+idle (joinH f p.1 p.2) r+(fixN n f).length=(r.length+1)+(fixN n (joinAll (joinH f p.1 p.2) r)).length
  split at h2 <;> rename_i h3
  ·rw[if_pos h3];omega
  ·rw[if_neg h3];omega
theorem joinAll_head {n:Nat}(l:List (Nat×Nat)):∀f,Head n f->(∀p∈l,p.1<n)->Head n (joinAll f l):=by
 induction l with
 |nil=>exact fun f h _=>h
 |cons p r ih=>
  intro f h hp
  exact ih _ (h.join (hp p (List.mem_cons_self ..))) (fun q hq=>hp q (List.mem_cons_of_mem _ hq))
theorem idle_same {n:Nat}{l m:List (Nat×Nat)}(h1:∀p∈l,p∈m)(h2:∀p∈m,p∈l)(hl:l.length=m.length)(hn:∀p∈l,p.1<n/\p.2<n):idle (fun x=>x) l=idle (fun x=>x) m:=by
 have hi:Head n (fun x=>x):=fun x hx=>⟨hx,rfl⟩
 have hn2:∀p∈m,p.1<n/\p.2<n:=fun p hp=>hn p (h2 p hp)
 have e1:=idle_count l _ hi hn
 have e2:=idle_count m _ hi hn2
 have e3:(fixN n (joinAll (fun x=>x) l)).length=(fixN n (joinAll (fun x=>x) m)).length :=
  Nat.le_antisymm (fix_le (joinAll_head m _ hi fun p hp=>(hn2 p hp).1) fun x y=>(joinAll_same h1 h2 x y).2) (fix_le (joinAll_head l _ hi fun p hp=>(hn p hp).1) fun x y=>(joinAll_same h1 h2 x y).1)
 omega
open Q (parseOf okN textOf)
def holdsOf (mo:Int)(d:DE):List (Nat×Nat):=if holdAB d.kind mo=true then [(ndN d 0,ndN d 1)] else []
theorem held_all (mo:Int)(ds:List DE):∀f,ds.foldl (holds mo) f=joinAll f (ds.flatMap (holdsOf mo)):=by
 induction ds with
 |nil=>exact fun f=>rfl
 |cons d r ih=>
  intro f
  rw[List.foldl_cons,ih,List.flatMap_cons,joinAll_app]
  congr 1
  unfold holdsOf holds
  cases holdAB d.kind mo <;> rfl
theorem idle_app (l m:List (Nat×Nat)):∀f,idle f (l++m)=idle f l+idle (joinAll f l) m:=by
 induction l with
 |nil=>intro f;simp[idle,joinAll]
 |cons p r ih=>
  intro f
  have h1:=ih (joinH f p.1 p.2)
  show (if f p.1=f p.2 then 1 else 0)+idle (joinH f p.1 p.2) (r++m)=((if f p.1=f p.2 then 1 else 0)+idle (joinH f p.1 p.2) r)+idle (joinAll (joinH f p.1 p.2) r) m
  omega
theorem loops_idle (mo:Int)(ds:List DE):∀i,i<=ds.length->(loopsUp mo ds i).length=idle (fun x=>x) ((ds.take i).flatMap (holdsOf mo))
 |0,_=>by simp[loopsUp,idle]
 |i+1,hi=>by
  have h1:=loops_idle mo ds i (by omega)
  have hl:i<ds.length:=by omega
  rw[loops_snoc mo ds i hl,List.length_append,h1,List.take_succ_eq_append_getElem hl,List.flatMap_append,idle_app]
  congr 1
  have h2:held mo (ds.take i)=joinAll (fun x=>x) ((ds.take i).flatMap (holdsOf mo)):=held_all mo _ _
  rw[<-h2]
  unfold closesB holdsOf
  simp only[List.flatMap_cons,List.flatMap_nil,List.append_nil]
  cases holdAB ds[i].kind mo with
  |false=>rfl
  |true=>
   by_cases e:held mo (ds.take i) (ndN ds[i] 0)=held mo (ds.take i) (ndN ds[i] 1) <;> simp[e,idle]
theorem loops_len (mo:Int)(ds:List DE):(loopsL mo ds).length=idle (fun x=>x) (ds.flatMap (holdsOf mo)):=by
 have:=loops_idle mo ds ds.length (Nat.le_refl _)
 rw[List.take_length]at this
 exact this
def turnD (n:Nat)(d:DE):DE:=if d.kind=102∨d.kind=104 then { d with ref:=(n:Int)-1-d.ref } else d
def turned (ds:List DE):List DE:=ds.reverse.map (turnD ds.length)
theorem turn_kind (n:Nat)(d:DE):(turnD n d).kind=d.kind:=by unfold turnD;split <;> rfl
theorem turn_name (n:Nat)(d:DE):(turnD n d).name=d.name:=by unfold turnD;split <;> rfl
theorem turn_nodes (n:Nat)(d:DE):(turnD n d).nodes=d.nodes:=by unfold turnD;split <;> rfl
theorem turn_ties (mo:Int)(n:Nat)(d:DE):tiesOf mo (turnD n d)=tiesOf mo d:=by
 unfold tiesOf ndN
 rw[turn_kind,turn_nodes]
theorem turn_holds (mo:Int)(n:Nat)(d:DE):holdsOf mo (turnD n d)=holdsOf mo d:=by
 unfold holdsOf ndN
 rw[turn_kind,turn_nodes]
theorem turned_mem {α:Type}(F:DE->List α)(ds:List DE)(hF:∀d,F (turnD ds.length d)=F d)(p:α):p∈(turned ds).flatMap F↔p∈ds.flatMap F:=by
 unfold turned
 rw[List.mem_flatMap,List.mem_flatMap]
 constructor
 ·rintro⟨d,hd,hp⟩
  obtain⟨e,he,rfl⟩:=List.mem_map.1 hd
  exact⟨e,List.mem_reverse.1 he,by rw[<-hF];exact hp⟩
 ·rintro⟨d,hd,hp⟩
  exact⟨_,List.mem_map.2 ⟨d,List.mem_reverse.2 hd,rfl⟩,by rw[hF];exact hp⟩
theorem turned_len {α:Type}(F:DE->List α)(ds:List DE)(hF:∀d,F (turnD ds.length d)=F d):((turned ds).flatMap F).length=(ds.flatMap F).length:=by
 unfold turned
 rw[List.length_flatMap,List.length_flatMap,List.map_map,List.map_reverse,List.sum_reverse]
 congr 1
 refine List.map_congr_left fun d _=>?_
 show (F (turnD ds.length d)).length=_
 rw[hF]
theorem flo_turned (mo:Int)(fn:Nat)(ds:List DE):floatsL fn (tied mo (turned ds))=floatsL fn (tied mo ds):=by
 unfold floatsL
 refine List.filter_congr fun x _=>?_
 have h:=joinAll_same (l:=(turned ds).flatMap (tiesOf mo)) (m:=ds.flatMap (tiesOf mo)) (fun p hp=>(turned_mem _ ds (turn_ties mo _) p).1 hp) (fun p hp=>(turned_mem _ ds (turn_ties mo _) p).2 hp) x 0
 have e1:tied mo (turned ds)=joinAll (fun x=>x) ((turned ds).flatMap (tiesOf mo)):=tied_all mo _ _
 have e2:tied mo ds=joinAll (fun x=>x) (ds.flatMap (tiesOf mo)):=tied_all mo _ _
 rw[e1,e2]
 by_cases e:joinAll (fun x=>x) (ds.flatMap (tiesOf mo)) x=joinAll (fun x=>x) (ds.flatMap (tiesOf mo)) 0
 ·rw[decide_eq_true e,decide_eq_true (h.2 e)]
 ·rw[decide_eq_false e,decide_eq_false (fun e2=>e (h.1 e2))]
theorem loo_turned (mo:Int)(n:Nat)(ds:List DE)(hn:∀p∈ds.flatMap (holdsOf mo),p.1<n/\p.2<n):(loopsL mo (turned ds)).length=(loopsL mo ds).length:=by
 rw[loops_len,loops_len]
 exact(idle_same (n:=n) (fun p hp=>(turned_mem _ ds (turn_holds mo _) p).2 hp) (fun p hp=>(turned_mem _ ds (turn_holds mo _) p).1 hp) (turned_len _ ds (turn_holds mo _)).symm hn).symm
theorem holds_lt {fn:Nat}(mo:Int)(ds:List DE)(h:∀d∈ds,endsB fn d.kind d.nodes=true):∀p∈ds.flatMap (holdsOf mo),p.1<fn/\p.2<fn:=by
 intro p hp
 obtain⟨d,hd,hp⟩:=List.mem_flatMap.1 hp
 unfold holdsOf at hp
 split at hp
 ·rw[List.mem_singleton]at hp
  subst hp
  obtain⟨h1,_,h3⟩:=ends_ge (h d hd)
  have hj:∀j,j<d.nodes.length->ndN d j<fn:=fun j hj=>by
   unfold ndN
   have hm:d.nodes.getD j 0∈d.nodes:=by rw[List.getD_eq_getElem?_getD,List.getElem?_eq_getElem hj];exact List.getElem_mem hj
   have:=h3 _ hm
   omega
  exact⟨hj 0 (by omega),hj 1 (by omega)⟩
 ·cases hp
theorem twP_nodup (l:List (List UInt8)):twP l=!decide l.Nodup:=by
 unfold twP twiceB anyB
 rw[Bool.eq_iff_iff,Bool.not_eq_true',decide_eq_false_iff_not,List.any_eq_true]
 constructor
 ·rintro⟨i,hi,h⟩ hn
  obtain⟨j,hj,h2⟩:=List.any_eq_true.1 h
  have hi:=List.mem_range.1 hi
  have hj:=List.mem_range.1 hj
  have h3:l.getD j []=l.getD i []:=by
   have h5:(X.bs (l.getD j [])).toList=(X.bs (l.getD i [])).toList:=eq_of_beq h2
   rw[toL,toL]at h5
   exact h5
  rw[List.getD_eq_getElem?_getD,List.getD_eq_getElem?_getD,List.getElem?_eq_getElem (by omega),List.getElem?_eq_getElem hi]at h3
  have h4:l[j]'(by omega)=l[i]:=h3
  have:=(List.pairwise_iff_getElem.1 hn) j i (by omega) hi hj
  exact this h4
 ·intro hn
  apply Classical.byContradiction
  intro hno
  refine hn (List.pairwise_iff_getElem.2 fun j i hj hi hji e=>hno ⟨i,List.mem_range.2 hi,List.any_eq_true.2 ⟨j,List.mem_range.2 hji,?_⟩⟩)
  show ((X.bs (l.getD j [])).toList == (X.bs (l.getD i [])).toList)=true
  rw[beq_iff_eq,toL,toL,List.getD_eq_getElem?_getD,List.getD_eq_getElem?_getD,List.getElem?_eq_getElem hj,List.getElem?_eq_getElem hi]
  exact e
theorem twP_reverse (l:List (List UInt8)):twP l.reverse=twP l:=by
 rw[twP_nodup,twP_nodup]
 congr 1
 rw[Bool.eq_iff_iff,decide_eq_true_eq,decide_eq_true_eq]
 unfold List.Nodup
 rw[List.pairwise_reverse]
 exact⟨fun h=>h.imp fun hab e=>hab e.symm,fun h=>h.imp fun hab e=>hab e.symm⟩
theorem turned_kinds (ds:List DE):(turned ds).map DE.kind=(ds.map DE.kind).reverse:=by
 unfold turned
 rw[List.map_map,List.map_reverse]
 congr 1
 exact List.map_congr_left fun d _=>turn_kind _ d
theorem fdev_bare (fn:Nat)(fm fx fk:Int)(ds:List DE)(d:DE):fdevB fn fm fx fk (ds.map DE.bare) d.bare=fdevB fn fm fx fk ds d:=by
 unfold fdevB refB
 rw[kinds_bare,List.length_map]
 rfl
theorem chkF_bare (fm fx fk:Int)(ns:List (List UInt8))(ds:List DE):chkF fm fx fk ns (ds.map DE.bare)=chkF fm fx fk ns ds:=by
 unfold chkF fdevsB
 rw[List.length_map,unk_bare,List.all_map,List.map_map]
 rw[show (fdevB ns.length fm fx fk (ds.map DE.bare) ∘ DE.bare)=fdevB ns.length fm fx fk ds from funext fun d=>fdev_bare _ _ _ _ _ _]
 rfl
theorem refT_bare2 (fm fx fk:Int)(ns:List (List UInt8))(ds:List DE)(mo:Int):refT fm fx fk ns (ds.map DE.bare) mo=refT fm fx fk ns ds mo:=by
 unfold refT
 rw[chkF_bare]
theorem floR_bare2 (fm fx fk:Int)(ns:List (List UInt8))(ds:List DE)(mo:Int):floR fm fx fk ns (ds.map DE.bare) mo=floR fm fx fk ns ds mo:=by
 unfold floR
 rw[refT_bare2,tied_bare]
theorem looR_bare2 (fm fx fk:Int)(ns:List (List UInt8))(ds:List DE)(mo:Int):looR fm fx fk ns (ds.map DE.bare) mo=looR fm fx fk ns ds mo:=by
 unfold looR
 rw[refT_bare2,loops_bare]
theorem same_bare2 {ds es:List DE}(h:ds.map DE.bare=es.map DE.bare)(fm fx fk:Int)(ns:List (List UInt8))(mo:Int):refT fm fx fk ns ds mo=refT fm fx fk ns es mo/\floR fm fx fk ns ds mo=floR fm fx fk ns es mo/\looR fm fx fk ns ds mo=looR fm fx fk ns es mo:=by
 refine⟨?_,?_,?_⟩
 ·rw[<-refT_bare2,h,refT_bare2]
 ·rw[<-floR_bare2,h,floR_bare2]
 ·rw[<-looR_bare2,h,looR_bare2]
theorem names_reverse (l:List (List UInt8)):namesB l.reverse=namesB l:=by
 rw[names_eq,names_eq,twP_reverse,List.all_reverse]
theorem fdev_turn {fn:Nat}{fm fx fk:Int}{ds:List DE}{d:DE}(hr:d.kind=102∨d.kind=104->0<=d.ref/\d.ref<(ds.length:Int)):fdevB fn fm fx fk (turned ds) (turnD ds.length d)=fdevB fn fm fx fk ds d:=by
 have hlen:(turned ds).length=ds.length:=by unfold turned;simp
 by_cases h:d.kind=102∨d.kind=104
 ·obtain⟨r0,r1⟩:=hr h
  have hk:(((turned ds).map DE.kind).getD ((ds.length:Int)-1-d.ref).toNat 0)=(ds.map DE.kind).getD d.ref.toNat 0:=by
   rw[turned_kinds,List.getD_eq_getElem?_getD,List.getElem?_reverse (by rw[List.length_map];omega),List.getD_eq_getElem?_getD,List.length_map]
   congr 2
   omega
  have h1:decide (0<=((ds.length:Int)-1-d.ref)/\((ds.length:Int)-1-d.ref)<(ds.length:Int))=true:=decide_eq_true (by omega)
  have h2:decide (0<=d.ref/\d.ref<(ds.length:Int))=true:=decide_eq_true ⟨r0,r1⟩
  have h3:hasRf d.kind=true:=by
   unfold hasRf
   rcases h with h|h <;> rw[h] <;> rfl
  have hB:refB (turned ds) d.kind ((ds.length:Int)-1-d.ref)=refB ds d.kind d.ref:=by
   unfold refB
   rw[h3,if_neg (by decide),if_neg (by decide),hlen,h1,h2,hk]
  unfold fdevB turnD
  rw[if_pos h]
  show (_&&(refB (turned ds) d.kind ((ds.length:Int)-1-d.ref)&&_))=_
  rw[hB]
 ·rw[show turnD ds.length d=d by unfold turnD;rw[if_neg h]]
  have h3:hasRf d.kind=false:=by
   unfold hasRf
   rw[decide_eq_false_iff_not]
   simpa using h
  have hB:refB (turned ds) d.kind d.ref=refB ds d.kind d.ref:=by
   unfold refB
   rw[h3,if_pos rfl,if_pos rfl]
  unfold fdevB
  rw[hB]
theorem chkF_turned (fm fx fk:Int)(ns:List (List UInt8))(ds:List DE)(hr:∀d∈ds,d.kind=102∨d.kind=104->0<=d.ref/\d.ref<(ds.length:Int)):chkF fm fx fk ns (turned ds)=chkF fm fx fk ns ds:=by
 have hlen:(turned ds).length=ds.length:=by unfold turned;simp
 have hnm:(turned ds).map DE.name=(ds.map DE.name).reverse:=by
  unfold turned
  rw[List.map_map,List.map_reverse]
  congr 1
  exact List.map_congr_left fun d _=>turn_name _ d
 have hall:(turned ds).all (fdevB ns.length fm fx fk (turned ds))=ds.all (fdevB ns.length fm fx fk ds):=by
  rw[Bool.eq_iff_iff,List.all_eq_true,List.all_eq_true]
  constructor
  ·intro h d hd
   rw[<-fdev_turn (hr d hd)]
   exact h _ (List.mem_map.2 ⟨d,List.mem_reverse.2 hd,rfl⟩)
  ·intro h e he
   obtain⟨d,hd,rfl⟩:=List.mem_map.1 he
   have hd:=List.mem_reverse.1 hd
   rw[fdev_turn (hr d hd)]
   exact h d hd
 have hu:unkN ns.length (turned ds)=unkN ns.length ds:=by
  unfold unkN turned
  rw[List.filter_map,List.length_map,List.filter_reverse,List.length_reverse]
  congr 3
  refine List.filter_congr fun d _=>?_
  show hasBr (turnD ds.length d).kind=_
  rw[turn_kind]
 unfold chkF fdevsB
 rw[hlen,hall,hnm,names_reverse,hu]
theorem order_math2 (fm fx fk:Int)(ns:List (List UInt8))(ds:List DE)(mo:Int)(hr:∀d∈ds,d.kind=102∨d.kind=104->0<=d.ref/\d.ref<(ds.length:Int)):refT fm fx fk ns (turned ds) mo=refT fm fx fk ns ds mo/\floR fm fx fk ns (turned ds) mo=floR fm fx fk ns ds mo/\(looR fm fx fk ns (turned ds) mo).length=(looR fm fx fk ns ds mo).length:=by
 have h1:refT fm fx fk ns (turned ds) mo=refT fm fx fk ns ds mo:=by
  unfold refT
  rw[chkF_turned fm fx fk ns ds hr]
 refine⟨h1,?_,?_⟩
 ·unfold floR
  rw[h1,flo_turned]
 ·unfold looR
  rw[h1]
  split
  ·rename_i h0
   rw[List.length_map,List.length_map]
   exact loo_turned mo ns.length ds (holds_lt mo ds (ref_ok h0).1)
  ·rfl
open Q (hid')
open X (RS OwnS strs)
theorem row_set {w:World}{B:Nat}{e:TypeId}{sz n g cap:Nat}{xs:List Value}(h:w.ownsRow B e sz (.slice (some ⟨g,0,none⟩) n cap) n xs)(i:Nat)(u:Value):(w.setCell ⟨g,i,none⟩ u).ownsRow B e sz (.slice (some ⟨g,0,none⟩) n cap) n (xs.set i u):=by
 obtain⟨h1,⟨h2,_⟩|⟨g',cap',cur,hv,h3,h4,h5,h6,h7,h8⟩⟩:=h
 ·cases h2
 ·simp only[Value.slice.injEq,Option.some.injEq,Addr.mk.injEq,and_true]at hv
  obtain⟨rfl,_,rfl⟩:=hv
  refine⟨by simpa using h1,.inr ⟨g,cap,cur.setIfInBounds i u,rfl,h3,?_,h5,h6,by simpa using h7,?_⟩⟩
  ·simp[World.setCell,Array.getElem?_modify,h4]
  ·rw[Array.toList_setIfInBounds,List.take_set,h8]
def setCs (w:World)(g k:Nat):List Value->World
 | []=>w
 |c::cs=>setCs (w.setCell ⟨g,k,none⟩ c) g (k+1) cs
def setL (l:List Value)(k:Nat):List Value->List Value
 | []=>l
 |c::cs=>setL (l.set k c) (k+1) cs
theorem setCs_block (g:Nat)(cs:List Value):∀(w:World) (k b:Nat),b≠g->(setCs w g k cs).heap[b]?=w.heap[b]?:=by
 induction cs with
 |nil=>intro w k b _;rfl
 |cons c cs ih=>
  intro w k b h
  show (setCs (w.setCell ⟨g,k,none⟩ c) g (k+1) cs).heap[b]?=_
  rw[ih _ _ b h]
  exact Below.heap_setCell _ _ _ _ h
theorem setCs_kept (g:Nat)(cs:List Value):∀(w0 w:World) (k:Nat),Kept w0 w->w0.heap.size<=g->Kept w0 (setCs w g k cs):=by
 induction cs with
 |nil=>intro w0 w k h _;exact h
 |cons c cs ih=>intro w0 w k h hg;exact ih w0 _ _ (h.setCell (p:=⟨g,k,none⟩) hg c) hg
theorem setCs_own {B:Nat}{e:TypeId}{sz n g cap:Nat}(cs:List Value):∀(w:World) (k:Nat) (xs:List Value),w.ownsRow B e sz (.slice (some ⟨g,0,none⟩) n cap) n xs->(setCs w g k cs).ownsRow B e sz (.slice (some ⟨g,0,none⟩) n cap) n (setL xs k cs):=by
 induction cs with
 |nil=>intro w k xs h;exact h
 |cons c cs ih=>intro w k xs h;exact ih _ _ _ (row_set h k c)
theorem setL_mid (cs:List Value):∀(a x b:List Value),x.length=cs.length->setL (a++(x++b)) a.length cs=a++(cs++b):=by
 induction cs with
 |nil=>intro a x b h;rw[List.eq_nil_of_length_eq_zero h];rfl
 |cons c cs ih=>
  intro a x b h
  cases x with
  |nil=>simp at h
  |cons y x=>
   show setL ((a++(y::x++b)).set a.length c) (a.length+1) cs=_
   rw[List.set_append_right _ _ (Nat.le_refl _),Nat.sub_self]
   have:=ih (a++[c]) x b (by simpa using h)
   rw[List.length_append,List.append_assoc,List.append_assoc]at this
   exact this
theorem flatD_len (es:List DE):(es.flatMap DE.cells).length=es.length*13:=by
 induction es with
 |nil=>rfl
 |cons x r ih=>
  rw[List.flatMap_cons,List.length_append,ih,List.length_cons,Nat.succ_mul,Nat.add_comm]
  rfl
theorem flat_set (es:List DE)(i:Nat)(hi:i<es.length)(d:DE):setL (es.flatMap DE.cells) (i*13) d.cells=(es.set i d).flatMap DE.cells:=by
 have h1:es.flatMap DE.cells=(es.take i).flatMap DE.cells++(es[i].cells++(es.drop (i+1)).flatMap DE.cells):=by
  have h2:es=es.take i++es[i]::es.drop (i+1):=by
   rw[<-List.drop_eq_getElem_cons hi,List.take_append_drop]
  have h3:=congrArg (List.flatMap DE.cells) h2
  rw[List.flatMap_append,List.flatMap_cons]at h3
  exact h3
 have hl:((es.take i).flatMap DE.cells).length=i*13:=by rw[flatD_len,List.length_take,Nat.min_eq_left (by omega)]
 rw[h1,<-hl,setL_mid d.cells _ es[i].cells _ rfl,List.set_eq_take_append_cons_drop,if_pos hi,List.flatMap_append,List.flatMap_cons]
theorem OwnD.set {B:Nat}{w:World}{g n cap:Nat}{es:List DE}(h:OwnD B w (.slice (some ⟨g,0,none⟩) n cap) es)(hn:n=es.length)(i:Nat)(hi:i<es.length)(d:DE):OwnD B (setCs w g (i*13) d.cells) (.slice (some ⟨g,0,none⟩) n cap) (es.set i d):=by
 subst hn
 unfold OwnD at h ⊢
 rw[List.length_set,<-flat_set es i hi d]
 exact setCs_own d.cells w (i*13) _ h
theorem setCs_sameT {B:Nat}{w:World}{g n cap k:Nat}{xs:List Value}(cs:List Value)(h:w.ownsRow B 48 13 (.slice (some ⟨g,0,none⟩) n cap) n xs):SameT w (setCs w g k cs):=by
 intro b c t f hb hk
 by_cases e:b=g
 ·subst e
  obtain⟨c',f',h2⟩:=Lib.ownsRow_kind h b rfl
  rw[hb]at h2
  simp at h2
  obtain⟨_,rfl,_⟩:=h2
  exact absurd hk (by decide)
 ·exact setCs_block g cs w k b e
theorem step_list {α:Type}(a c:List α)(i:Nat)(x:α)(h:a.length=c.length)(hx:a[i]?=some x):(a.take i++c.drop i).set i x=a.take (i+1)++c.drop (i+1):=by
 obtain⟨hi,rfl⟩:=List.getElem?_eq_some_iff.1 hx
 have hl:(a.take i).length=i:=by rw[List.length_take];omega
 rw[List.set_append_right _ _ (by omega),hl,Nat.sub_self,List.drop_eq_getElem_cons (show i<c.length by omega),List.set_cons_zero,List.take_add_one,List.getElem?_eq_getElem hi,Option.toList_some,List.append_assoc]
 rfl
theorem turned_at (ds:List DE)(i:Nat)(h:i<ds.length):(turned ds)[i]?=some (turnD ds.length (ds[ds.length-1-i]'(by omega))):=by
 unfold turned
 rw[List.getElem?_map,List.getElem?_reverse h,List.getElem?_eq_getElem (by omega)]
 rfl
theorem turn_bare (n:Nat)(d:DE):(turnD n d).bare=turnD n d.bare:=by
 unfold turnD
 by_cases h:d.kind=102∨d.kind=104
 ·rw[if_pos h,if_pos (show d.bare.kind=102∨d.bare.kind=104 from h)]
  rfl
 ·rw[if_neg h,if_neg (show ¬(d.bare.kind=102∨d.bare.kind=104) from h)]
theorem turn_step {ds es:List DE}{i dn m:Nat}{Dv D2:DE}(hn:dn=ds.length)(hi:i<dn)(hm:m=dn-1-i)(hmd:m<ds.length)(hD:Dv.bare=ds[m].bare)(h2:D2.bare=(turnD dn Dv).bare)(h:es.map DE.bare=((turned ds).map DE.bare).take i++(ds.map DE.bare).drop i):(es.set i D2).map DE.bare=((turned ds).map DE.bare).take (i+1)++(ds.map DE.bare).drop (i+1):=by
 rw[List.map_set,h]
 refine step_list _ _ i _ (by rw[List.length_map,List.length_map];unfold turned;simp) ?_
 rw[List.getElem?_map,turned_at ds i (by omega),h2,turn_bare,hD,<-turn_bare]
 subst hm hn
 rfl
theorem refs_step {ds:List DE}{i dn m:Nat}{Dv:DE}(hm:m=dn-1-i)(hmd:m<ds.length)(hD:Dv.bare=ds[m].bare)(hr:Dv.kind=102∨Dv.kind=104->0<=Dv.ref/\Dv.ref<(dn:Int))(h:∀j d,j<i->ds[dn-1-j]?=some d->d.kind=102∨d.kind=104->0<=d.ref/\d.ref<(dn:Int)) :
  ∀j d,j<i+1->ds[dn-1-j]?=some d->d.kind=102∨d.kind=104->0<=d.ref/\d.ref<(dn:Int):=by
 intro j d hj hd
 by_cases e:j<i
 ·exact h j d e hd
 ·obtain rfl:j=i:=by omega
  rw[<-hm,List.getElem?_eq_getElem hmd]at hd
  obtain rfl:ds[m]=d:=Option.some.inj hd
  have e1:Dv.bare.kind=ds[m].bare.kind:=by rw[hD]
  have e2:Dv.bare.ref=ds[m].bare.ref:=by rw[hD]
  have e1:Dv.kind=ds[m].kind:=e1
  have e2:Dv.ref=ds[m].ref:=e2
  rw[<-e1,<-e2]
  exact hr
theorem turn_mem {B:Nat}{w V:World}{t:TypeId}{p q gb dn ecap i:Nat}{ps qs:List Value}{vS:Value}{ns:List (List UInt8)}{es:List DE}{D:DE}(K:Kept w V)(rP:RowL t V p ps)(rQ:RowL t V q qs)(oS:OwnS B V vS ns)(oD:OwnD B V (.slice (some ⟨gb,0,none⟩) dn ecap) es)(hown:∀d∈es,d.own B V)(hD:D.own B V)(ht:48≠t)(hB:w.heap.size<=B)(hn:dn=es.length)(hi:i<dn) :
  (Kept w (setCs V gb (i*13) D.cells)/\RowL t (setCs V gb (i*13) D.cells) p ps/\RowL t (setCs V gb (i*13) D.cells) q qs/\OwnS B (setCs V gb (i*13) D.cells) vS ns)/\OwnD B (setCs V gb (i*13) D.cells) (.slice (some ⟨gb,0,none⟩) dn ecap) (es.set i D)/\∀d∈es.set i D,d.own B (setCs V gb (i*13) D.cells):=by
 have hp:p≠gb:=fun e=>own_row oD rP ht (by rw[e];rfl)
 have hq:q≠gb:=fun e=>own_row oD rQ ht (by rw[e];rfl)
 have hg:B<=gb:=(World.ownsRow.lt oD gb rfl).1
 have hs:SameT V (setCs V gb (i*13) D.cells):=by subst hn;exact setCs_sameT D.cells oD
 refine⟨⟨setCs_kept gb D.cells w V _ K (by omega),rP.block (setCs_block gb _ V _ p hp),rQ.block (setCs_block gb _ V _ q hq),?_⟩,OwnD.set oD hn i (by omega) D,fun d hd=>?_⟩
 ·exact own_kept oS (fun b hb=>setCs_block gb _ V _ b (fun e=>own_apart oS oD (by decide) b hb (by rw[e];rfl)))
 ·rcases List.mem_or_eq_of_mem_set hd with h|rfl
  ·exact(hown d h).same hs
  ·exact hD.same hs
theorem turn_old {B:Nat}{V:World}{gb dn ecap i:Nat}{es:List DE}(oD:OwnD B V (.slice (some ⟨gb,0,none⟩) dn ecap) es)(hn:dn=es.length)(hi:i<dn):∃u:Nat->Value,(∀j,j<13->V.cell? ⟨gb,i*13+j,none⟩=some (u j))/\∀j,V.frozen? ⟨gb,j,none⟩=false:=by
 obtain⟨g,cap,e,_,_,_,hc,hz⟩:=own_cell oD (by omega)
 simp only[Value.slice.injEq,Option.some.injEq,Addr.mk.injEq,and_true]at e
 obtain⟨rfl,_,_⟩:=e
 exact⟨fun j=>((es.map DE.cells).getD i []).getD j undef,fun j hj=>hc _ _ (flatMap_cells_at es i (by omega) j hj),hz⟩
open Q (hid' Lett ErrV Tab)
open X (RS OwnS strs)
theorem sz_bare {d e:DE}(h:d.bare=e.bare)(hz:e.sz):d.sz:=by
 have h1:e.bare.sz:=⟨hz.nodes,hz.name,hz.md,hz.gs,hz.vs⟩
 rw[<-h]at h1
 exact⟨h1.nodes,h1.name,h1.md,h1.gs,h1.vs⟩
theorem sz_turn {n:Nat}{d:DE}(hz:d.sz):(turnD n d).sz:=by
 unfold turnD
 split
 ·exact⟨hz.nodes,hz.name,hz.md,hz.gs,hz.vs⟩
 ·exact hz
theorem turned_sz {ds es:List DE}(h:es.map DE.bare=(turned ds).map DE.bare)(hz:∀d∈ds,d.sz):∀d∈es,d.sz:=by
 intro d hd
 have h1:d.bare∈(turned ds).map DE.bare:=by rw[<-h];exact List.mem_map.2 ⟨d,hd,rfl⟩
 obtain⟨e,he,h2⟩:=List.mem_map.1 h1
 obtain⟨x,hx,rfl⟩:=List.mem_map.1 he
 exact sz_bare h2.symm (sz_turn (hz x (List.mem_reverse.1 hx)))
theorem fld_devs (a:Option Addr)(n c:Nat)(b:Option Addr)(m k:Nat)(x y z:Int)(w:World):(Instr.field 27 (.agg #[.slice a n c,.slice b m k,.int .i64 x,.int .i64 y,.int .i64 z]) 1).run Tryz.prog w=.ok (.slice b m k) w:=by kernel_rfl
theorem turned_end {ds es:List DE}{dn:Nat}(hn:dn=ds.length)(h:es.map DE.bare=((turned ds).map DE.bare).take dn++(ds.map DE.bare).drop dn):es.map DE.bare=(turned ds).map DE.bare:=by
 rw[h,List.drop_eq_nil_of_le (by rw[List.length_map];omega),List.append_nil,List.take_of_length_le]
 unfold turned
 simp
 omega
theorem refs_end {ds:List DE}{dn:Nat}(hn:dn=ds.length)(h:∀j d,j<dn->ds[dn-1-j]?=some d->d.kind=102∨d.kind=104->0<=d.ref/\d.ref<(dn:Int)):∀d∈ds,d.kind=102∨d.kind=104->0<=d.ref/\d.ref<(ds.length:Int):=by
 intro d hd
 obtain⟨k,hk,rfl⟩:=List.getElem_of_mem hd
 have h1:=h (dn-1-k) ds[k] (by omega) (by rw[show dn-1-(dn-1-k)=k by omega,List.getElem?_eq_getElem hk])
 subst hn
 exact h1
theorem order10_any (fa:Option Addr)(fn fc:Nat)(da:Option Addr)(dn dc:Nat)(fm fx fk mo:Int)(ns:List (List UInt8))(ds:List DE)(w:World)(hns:RS w (.slice fa fn fc) ns)(hcap:fn<=fc)(hbig:fc<=9223372036854775807)(hs:∀x∈ns,x.length<=4611686018427387903)(h:DsR w (.slice da dn dc) ds)(hz:∀d∈ds,d.sz/\d.fit/\d.wsz)(hdf:dn*200<=140737488355328)(hnf:fn*16<=140737488355328)(hL:Lett w)(hE:ErrV w)(hT:Tab w) :
  Calls Tryz.prog 4 #[.agg #[.slice fa fn fc,.slice da dn dc,.int .i64 fm,.int .i64 fx,.int .i64 fk],.int .i64 mo] w fun e w'=>Kept w w'/\e=.returned (.bool true):=by
 have hn:dn=ds.length:=by have:=h.1.len;rw[List.length_map]at this;exact this
 have hdb:dn<=9223372036854775807:=by omega
 have kA:=(Kept.refl w).alloc (.cells #[.slice fa fn fc,.slice da dn dc,.int .i64 fm,.int .i64 fx,.int .i64 fk] 27)
 have hA:=RowL.alloc 27 w [.slice fa fn fc,.slice da dn dc,.int .i64 fm,.int .i64 fx,.int .i64 fk]
 have HA:=hid' (And.intro hns (And.intro hcap (And.intro hbig (And.intro hs (And.intro h hz)))))
 have HLE:=hid' (And.intro hL (And.intro hE hT))
 have HN:=hid' hn
 clear hns hcap hbig hs h hz hL hE hT hn
 go_enter Tryz.func4,Tryz.ntmps4
 go_upto_region 1 with fail
 generalize w.alloc (.cells #[.slice fa fn fc,.slice da dn dc,.int .i64 fm,.int .i64 fx,.int .i64 fk] 27)=W at kA hA ⊢
 obtain⟨p,hp⟩:∃q,q=w.heap.size:=⟨_,rfl⟩
 have HPW:=hid' (show w.heap.size<=p by omega)
 rw[<-hp]at hA ⊢
 have HK:=hid' kA
 have HF:=hid' hA
 clear kA hA hp
 go_wp2_with fail
 refine(awake10_any _ (HLE.out.1.kept HK.out) (HLE.out.2.1.kept HK.out) (HLE.out.2.2.kept HK.out)).mono ?_
 rintro e w1 ⟨hk,rfl⟩
 have HF:=hid' (HF.out.kept hk)
 have HK:=hid' (HK.out.trans hk)
 clear hk
 have f0:=HF.out.cell 0 (.slice fa fn fc)
 have f1:=HF.out.cell 1 (.slice da dn dc)
 have f2:=HF.out.cell 2 (.int .i64 fm)
 have f3:=HF.out.cell 3 (.int .i64 fx)
 have f4:=HF.out.cell 4 (.int .i64 fk)
 go_wp2_with fail
 refine(bulky_any fa fn fc da dn dc fm fx fk ds _ (HA.out.2.2.2.2.1.kept HK.out) hdb).mono ?_
 rintro e w2 ⟨hk,r,rfl⟩
 have HF:=hid' (HF.out.kept hk)
 have HK:=hid' (HK.out.trans hk)
 clear hk f0 f1 f2 f3 f4
 cases r with
 |true=>
  go_wp2_with fail
  go_ret
  exact⟨HK.out,rfl⟩
 |false=>
  have f0:=HF.out.cell 0 (.slice fa fn fc)
  have f1:=HF.out.cell 1 (.slice da dn dc)
  have f2:=HF.out.cell 2 (.int .i64 fm)
  have f3:=HF.out.cell 3 (.int .i64 fx)
  have f4:=HF.out.cell 4 (.int .i64 fk)
  go_wp2_with fail
  refine(copy_any fa fn fc da dn dc fm fx fk ns ds _ (HA.out.1.kept HK.out) hnf (HA.out.2.2.2.2.1.kept HK.out) (fun d hd=>(HA.out.2.2.2.2.2 d hd).2.1) hdf).mono ?_
  rintro e w3 ⟨hk,gn,cn,ev,es,rfl,hOS,hOD,hown,hbare⟩
  have hen:es.length=dn:=by have:=congrArg List.length hbare;rw[List.length_map,List.length_map]at this;have:=HN.out;omega
  obtain⟨ea,ecap,rfl⟩:=own_shape hOD
  rw[hen]at hOD ⊢
  obtain⟨B,hB⟩:∃B,B=w2.heap.size:=⟨_,rfl⟩
  rw[<-hB]at hOS hOD hown
  have kQ:=(Kept.refl w3).alloc (.cells #[.slice (some ⟨gn,0,none⟩) fn cn,.slice ea dn ecap,.int .i64 fm,.int .i64 fx,.int .i64 fk] 27)
  have rQ:=RowL.alloc 27 w3 [.slice (some ⟨gn,0,none⟩) fn cn,.slice ea dn ecap,.int .i64 fm,.int .i64 fx,.int .i64 fk]
  have hBs:=And.intro (show p<B by rw[hB];exact HF.out.lt) (And.intro (show w.heap.size<=B by rw[hB];exact HK.out.size) (show B<=w3.heap.size by rw[hB];exact hk.size))
  clear f0 f1 f2 f3 f4 hB hen
  go_upto_region 6 with fail
  generalize w3.alloc (.cells #[.slice (some ⟨gn,0,none⟩) fn cn,.slice ea dn ecap,.int .i64 fm,.int .i64 fx,.int .i64 fk] 27)=W4 at kQ rQ ⊢
  obtain⟨q,hq⟩:∃q,q=w3.heap.size:=⟨_,rfl⟩
  rw[<-hq]at rQ hBs ⊢
  have HB:=hid' hBs
  have HI:=hid' (And.intro (And.intro ((HK.out.trans hk).trans kQ) (And.intro ((HF.out.kept hk).kept kQ) (And.intro rQ (hOS.kept kQ)))) (And.intro (show OwnD B W4 (.slice ea dn ecap) es from own_keptK hOD kQ) (And.intro (fun d hd=>(hown d hd).same (Kept.sameT kQ)) hbare)))
  have f1:=HI.out.1.2.1.cell 1 (.slice da dn dc)
  have g1:=HI.out.1.2.2.1.cell 1 (.slice ea dn ecap)
  clear kQ rQ hOS hOD hBs hq hk hown hbare HK HF
  go_wp2_with fail
  go_loopw [29] (fun v29 wr=>∃(i:Nat) (es:List DE),i<=dn/\v29=.int .i64 (i:Int)/\Hid ((Kept w wr/\RowL 27 wr p [.slice fa fn fc,.slice da dn dc,.int .i64 fm,.int .i64 fx,.int .i64 fk]/\RowL 27 wr q [.slice (some ⟨gn,0,none⟩) fn cn,.slice ea dn ecap,.int .i64 fm,.int .i64 fx,.int .i64 fk]/\OwnS B wr (.slice (some ⟨gn,0,none⟩) fn cn) ns)/\OwnD B wr (.slice ea dn ecap) es/\(∀d∈es,d.own B wr)/\es.map DE.bare=((turned ds).map DE.bare).take i++(ds.map DE.bare).drop i/\(∀j d,j<i->ds[dn-1-j]?=some d->d.kind=102∨d.kind=104->0<=d.ref/\d.ref<(dn:Int)))) (fun v29 _=>dn-(intOf v29).toNat)
  case atStart=>exact⟨0,es,Nat.zero_le _,rfl,HI.out.1,HI.out.2.1,HI.out.2.2.1,by rw[List.take_zero,List.nil_append,List.drop_zero];exact HI.out.2.2.2,fun j d hj=>absurd hj (Nat.not_lt_zero _)⟩
  case round=>
   clear HI f1 g1 es
   obtain⟨i,es,hil,rfl,H⟩:=hrel
   by_cases hit:i<dn
   ·have hii:(i:Int)<(dn:Int):=by omega
    have hi0:(0:Int)<=(i:Int):=by omega
    have hel:dn=es.length:=by
     have h1:=congrArg List.length H.out.2.2.2.1
     have h2:=HN.out
     rw[List.length_map,List.length_append,List.length_take,List.length_drop,List.length_map,List.length_map,show (turned ds).length=ds.length by unfold turned;simp]at h1
     omega
    obtain⟨gb,gcap,hee,_,_,_,_,_⟩:=own_cell H.out.2.1 (by omega)
    simp only[Value.slice.injEq]at hee
    obtain⟨rfl,-,-⟩:=hee
    have HEL:=hid' hel
    clear hel
    have f0:=H.out.1.2.1.cell 0 (.slice fa fn fc)
    have f1:=H.out.1.2.1.cell 1 (.slice da dn dc)
    have f2:=H.out.1.2.1.cell 2 (.int .i64 fm)
    have f3:=H.out.1.2.1.cell 3 (.int .i64 fx)
    have f4:=H.out.1.2.1.cell 4 (.int .i64 fk)
    go_wp2_with fail
    refine(copy_any fa fn fc da dn dc fm fx fk ns ds _ (HA.out.1.kept H.out.1.1) hnf (HA.out.2.2.2.2.1.kept H.out.1.1) (fun d hd=>(HA.out.2.2.2.2.2 d hd).2.1) hdf).mono ?_
    rintro e v1 ⟨hk,gn',cn',ev,xs,rfl,-,hOD,hown,hbare⟩
    have hen:xs.length=dn:=by have:=congrArg List.length hbare;rw[List.length_map,List.length_map]at this;have:=HN.out;omega
    obtain⟨xa,xcap,rfl⟩:=own_shape hOD
    rw[hen]at hOD ⊢
    obtain⟨m,hm⟩:∃m,m=dn-1-i:=⟨_,rfl⟩
    have hmI:(dn:Int)-1-(i:Int)=(m:Int):=by omega
    have hml:m<xs.length:=by omega
    have hm0:(0:Int)<=(m:Int):=by omega
    have hmn:(m:Int)<(dn:Int):=by omega
    obtain⟨b,off,rfl,hV⟩:=dev_raw (OwnD.dsr hOD hown) m hml
    have hmd:m<ds.length:=by have:=HN.out;omega
    have HD:=hid' (show xs[m].bare=ds[m].bare by
     have h1:=congrArg (fun l=>l[m]?) hbare
     simp only[List.getElem?_map,List.getElem?_eq_getElem hml,List.getElem?_eq_getElem hmd,Option.map_some,Option.some.injEq]at h1
     exact h1)
    have HO:=hid' (hown _ (List.getElem_mem hml))
    generalize xs[m]=Dv at hV HD HO
    obtain⟨y0,y1,y2,y3,y4,y5,y6,y7,y8,y9,y10,y11,y12⟩:=hV _ (Kept.refl _)
    have kD:=(Kept.refl v1).alloc (.cells #[.int .u8 Dv.kind,.string (X.bs Dv.name),.slice Dv.an Dv.nodes.length Dv.cn,.int .i64 Dv.ref,.int .i64 Dv.vm,.int .i64 Dv.vx,.int .i64 Dv.wk,.slice Dv.av Dv.wv.length Dv.cv,.slice Dv.ai Dv.ws.length Dv.ci,.string (X.bs Dv.md.name),.int .u8 Dv.md.kind,.slice Dv.a1 Dv.md.gs.length Dv.c1,.slice Dv.a2 Dv.md.vs.length Dv.c2] 48)
    have rD:=RowL.alloc 48 v1 [.int .u8 Dv.kind,.string (X.bs Dv.name),.slice Dv.an Dv.nodes.length Dv.cn,.int .i64 Dv.ref,.int .i64 Dv.vm,.int .i64 Dv.vx,.int .i64 Dv.wk,.slice Dv.av Dv.wv.length Dv.cv,.slice Dv.ai Dv.ws.length Dv.ci,.string (X.bs Dv.md.name),.int .u8 Dv.md.kind,.slice Dv.a1 Dv.md.gs.length Dv.c1,.slice Dv.a2 Dv.md.vs.length Dv.c2]
    have HX:=hid' (And.intro hk (And.intro hm hmd))
    clear hOD hown hbare hml hm hen hk hV f0 f1 f2 f3 f4
    have hfd:=fld_devs
    go_upto_region 11 with fail
    generalize v1.alloc (.cells #[.int .u8 Dv.kind,.string (X.bs Dv.name),.slice Dv.an Dv.nodes.length Dv.cn,.int .i64 Dv.ref,.int .i64 Dv.vm,.int .i64 Dv.vx,.int .i64 Dv.wk,.slice Dv.av Dv.wv.length Dv.cv,.slice Dv.ai Dv.ws.length Dv.ci,.string (X.bs Dv.md.name),.int .u8 Dv.md.kind,.slice Dv.a1 Dv.md.gs.length Dv.c1,.slice Dv.a2 Dv.md.vs.length Dv.c2] 48)=V at kD rD ⊢
    obtain⟨o,ho⟩:∃q,q=v1.heap.size:=⟨_,rfl⟩
    rw[<-ho]at rD ⊢
    have KV:=HX.out.1.trans kD
    have HNE:=hid' (show (¬o=p)/\¬o=q by have h1:=HX.out.1.size;have h2:=H.out.1.2.1.lt;have h3:=H.out.1.2.2.1.lt;omega)
    have HP:=hid' (show w.heap.size<=o by have h1:=HX.out.1.size;have h2:=H.out.1.2.1.lt;have h3:=HPW.out;omega)
    have HV:=hid' (And.intro (And.intro (H.out.1.1.trans KV) (And.intro (H.out.1.2.1.kept KV) (And.intro (H.out.1.2.2.1.kept KV) (H.out.1.2.2.2.kept KV)))) (And.intro (show OwnD B V (.slice (some ⟨gb,0,none⟩) dn ecap) es from own_keptK H.out.2.1 KV) (And.intro (fun d hd=>(H.out.2.2.1 d hd).same (Kept.sameT KV)) ((HO.out.same (Kept.sameT kD)).mono (show B<=wr.heap.size by have h1:=HB.out.2.2;have h2:=H.out.1.2.2.1.lt;omega)))))
    have HOD:=hid' (show ¬gb=o by have h1:=(World.ownsRow.lt H.out.2.1 gb rfl).2;have h2:=HX.out.1.size;omega)
    have HRD:=hid' rD
    clear kD KV ho HO hfd y0 y1 y2 y3 y4 y5 y6 y7 y8 y9 y10 y11 y12 hmI hm0 hmn
    by_cases k9:Dv.kind=102
    ·have HKD:=hid' k9
     have k1:(Dv.kind == 102)=true:=by simpa using k9
     clear k9
     by_cases hr:0<=Dv.ref/\Dv.ref<(dn:Int)
     ·have hr1:¬Dv.ref<0:=by omega
      have hr2:¬(dn:Int)<=Dv.ref:=by omega
      have b0:=rD.cell 0 (.int .u8 Dv.kind)
      have b3:=rD.cell 3 (.int .i64 Dv.ref)
      have bz:=rD.fz
      have HRR:=hid' hr
      clear hr
      go_upto_region 15 with fail
      have hw:(dn:Int)-1-Dv.ref=(dn:Int)-1-Dv.ref:=rfl
      have rD:=rD.set 3 (.int .i64 ((dn:Int)-1-Dv.ref))
      have sT:=sameT_set (i:=3) (v:=.int .i64 ((dn:Int)-1-Dv.ref)) HRD.out (by decide)
      have HV:=hid' (And.intro (And.intro (HV.out.1.1.setCell (p:=⟨o,3,none⟩) HP.out (.int .i64 ((dn:Int)-1-Dv.ref))) (And.intro (HV.out.1.2.1.far (fun e=>HNE.out.1 e.symm) 3 (.int .i64 ((dn:Int)-1-Dv.ref))) (And.intro (HV.out.1.2.2.1.far (fun e=>HNE.out.2 e.symm) 3 (.int .i64 ((dn:Int)-1-Dv.ref))) (show OwnS B _ _ ns from ownsRow_setCell_other HV.out.1.2.2.2 (a:=⟨o,3,none⟩) (own_row HV.out.1.2.2.2 HRD.out (by decide)) (.int .i64 ((dn:Int)-1-Dv.ref)))))) (And.intro (show OwnD B _ _ es from ownsRow_setCell_other HV.out.2.1 (a:=⟨o,3,none⟩) (fun e=>HOD.out (Option.some.inj e)) (.int .i64 ((dn:Int)-1-Dv.ref))) (And.intro (fun d hd=>(HV.out.2.2.1 d hd).same sT) (HV.out.2.2.2.same sT))))
      generalize V.setCell ⟨o,3,none⟩ (.int .i64 ((dn:Int)-1-Dv.ref))=V2 at HV rD ⊢
      clear b0 b3 bz sT hw k1
      have HQ:=hid' (turn_mem (i:=i) (D:=(⟨Dv.kind,Dv.name,Dv.nodes,Dv.an,Dv.cn,((dn:Int)-1-Dv.ref),Dv.vm,Dv.vx,Dv.wk,Dv.wv,Dv.av,Dv.cv,Dv.ws,Dv.ai,Dv.ci,Dv.md,Dv.a1,Dv.c1,Dv.a2,Dv.c2⟩:DE)) HV.out.1.1 HV.out.1.2.1 HV.out.1.2.2.1 HV.out.1.2.2.2 HV.out.2.1 HV.out.2.2.1 (show DE.own B V2 (⟨Dv.kind,Dv.name,Dv.nodes,Dv.an,Dv.cn,((dn:Int)-1-Dv.ref),Dv.vm,Dv.vx,Dv.wk,Dv.wv,Dv.av,Dv.cv,Dv.ws,Dv.ai,Dv.ci,Dv.md,Dv.a1,Dv.c1,Dv.a2,Dv.c2⟩:DE) from⟨HV.out.2.2.2.nodes,HV.out.2.2.2.wv,HV.out.2.2.2.ws,HV.out.2.2.2.gs,HV.out.2.2.2.vs⟩) (by decide) HB.out.2.1 HEL.out hit)
      have HS:=hid' (turn_step (D2:=(⟨Dv.kind,Dv.name,Dv.nodes,Dv.an,Dv.cn,((dn:Int)-1-Dv.ref),Dv.vm,Dv.vx,Dv.wk,Dv.wv,Dv.av,Dv.cv,Dv.ws,Dv.ai,Dv.ci,Dv.md,Dv.a1,Dv.c1,Dv.a2,Dv.c2⟩:DE)) HN.out hit HX.out.2.1 HX.out.2.2 HD.out (by unfold turnD;rw[if_pos (Or.inl HKD.out)]) H.out.2.2.2.1)
      have HR:=hid' (refs_step HX.out.2.1 HX.out.2.2 HD.out (fun _=>HRR.out) H.out.2.2.2.2)
      obtain⟨u,hu,oz⟩:=turn_old HV.out.2.1 HEL.out hit
      have o0:V2.cell? ⟨gb,i*13,none⟩=some (u 0):=hu 0 (by omega)
      have o1:=hu 1 (by omega)
      have o2:=hu 2 (by omega)
      have o3:=hu 3 (by omega)
      have o4:=hu 4 (by omega)
      have o5:=hu 5 (by omega)
      have o6:=hu 6 (by omega)
      have o7:=hu 7 (by omega)
      have o8:=hu 8 (by omega)
      have o9:=hu 9 (by omega)
      have o10:=hu 10 (by omega)
      have o11:=hu 11 (by omega)
      have o12:=hu 12 (by omega)
      have z0:=rD.cell 0 (.int .u8 Dv.kind)
      have z1:=rD.cell 1 (.string (X.bs Dv.name))
      have z2:=rD.cell 2 (.slice Dv.an Dv.nodes.length Dv.cn)
      have z3:=rD.cell 3 (.int .i64 ((dn:Int)-1-Dv.ref))
      have z4:=rD.cell 4 (.int .i64 Dv.vm)
      have z5:=rD.cell 5 (.int .i64 Dv.vx)
      have z6:=rD.cell 6 (.int .i64 Dv.wk)
      have z7:=rD.cell 7 (.slice Dv.av Dv.wv.length Dv.cv)
      have z8:=rD.cell 8 (.slice Dv.ai Dv.ws.length Dv.ci)
      have z9:=rD.cell 9 (.string (X.bs Dv.md.name))
      have z10:=rD.cell 10 (.int .u8 Dv.md.kind)
      have z11:=rD.cell 11 (.slice Dv.a1 Dv.md.gs.length Dv.c1)
      have z12:=rD.cell 12 (.slice Dv.a2 Dv.md.vs.length Dv.c2)
      have g1:=HV.out.1.2.2.1.cell 1 (.slice (some ⟨gb,0,none⟩) dn ecap)
      clear hu rD
      go_wp2_with fail
      go_roundw
      case rel=>
       refine⟨i+1,es.set i (⟨Dv.kind,Dv.name,Dv.nodes,Dv.an,Dv.cn,((dn:Int)-1-Dv.ref),Dv.vm,Dv.vx,Dv.wk,Dv.wv,Dv.av,Dv.cv,Dv.ws,Dv.ai,Dv.ci,Dv.md,Dv.a1,Dv.c1,Dv.a2,Dv.c2⟩:DE),by omega,by go_num,?_⟩
       exact⟨HQ.out.1,HQ.out.2.1,HQ.out.2.2,HS.out,HR.out⟩
      case measure=>show dn-((i:Int)+1).toNat<dn-(i:Int).toNat;omega
     ·have b0:=rD.cell 0 (.int .u8 Dv.kind)
      have b3:=rD.cell 3 (.int .i64 Dv.ref)
      by_cases hr1:Dv.ref<0
      ·clear hr
       go_wp2_with fail
       go_ret
       exact⟨HV.out.1.1,rfl⟩
      ·have hr2:(dn:Int)<=Dv.ref:=by omega
       clear hr
       go_wp2_with fail
       go_ret
       exact⟨HV.out.1.1,rfl⟩
    ·have k1:(Dv.kind == 102)=false:=by simpa using k9
     by_cases k8:Dv.kind=104
     ·have HKD:=hid' k8
      have k2:(Dv.kind == 104)=true:=by simpa using k8
      clear k8 k9
      by_cases hr:0<=Dv.ref/\Dv.ref<(dn:Int)
      ·have hr1:¬Dv.ref<0:=by omega
       have hr2:¬(dn:Int)<=Dv.ref:=by omega
       have b0:=rD.cell 0 (.int .u8 Dv.kind)
       have b3:=rD.cell 3 (.int .i64 Dv.ref)
       have bz:=rD.fz
       have HRR:=hid' hr
       clear hr
       go_upto_region 15 with fail
       have hw:(dn:Int)-1-Dv.ref=(dn:Int)-1-Dv.ref:=rfl
       have rD:=rD.set 3 (.int .i64 ((dn:Int)-1-Dv.ref))
       have sT:=sameT_set (i:=3) (v:=.int .i64 ((dn:Int)-1-Dv.ref)) HRD.out (by decide)
       have HV:=hid' (And.intro (And.intro (HV.out.1.1.setCell (p:=⟨o,3,none⟩) HP.out (.int .i64 ((dn:Int)-1-Dv.ref))) (And.intro (HV.out.1.2.1.far (fun e=>HNE.out.1 e.symm) 3 (.int .i64 ((dn:Int)-1-Dv.ref))) (And.intro (HV.out.1.2.2.1.far (fun e=>HNE.out.2 e.symm) 3 (.int .i64 ((dn:Int)-1-Dv.ref))) (show OwnS B _ _ ns from ownsRow_setCell_other HV.out.1.2.2.2 (a:=⟨o,3,none⟩) (own_row HV.out.1.2.2.2 HRD.out (by decide)) (.int .i64 ((dn:Int)-1-Dv.ref)))))) (And.intro (show OwnD B _ _ es from ownsRow_setCell_other HV.out.2.1 (a:=⟨o,3,none⟩) (fun e=>HOD.out (Option.some.inj e)) (.int .i64 ((dn:Int)-1-Dv.ref))) (And.intro (fun d hd=>(HV.out.2.2.1 d hd).same sT) (HV.out.2.2.2.same sT))))
       generalize V.setCell ⟨o,3,none⟩ (.int .i64 ((dn:Int)-1-Dv.ref))=V2 at HV rD ⊢
       clear b0 b3 bz sT hw k1 k2
       have HQ:=hid' (turn_mem (i:=i) (D:=(⟨Dv.kind,Dv.name,Dv.nodes,Dv.an,Dv.cn,((dn:Int)-1-Dv.ref),Dv.vm,Dv.vx,Dv.wk,Dv.wv,Dv.av,Dv.cv,Dv.ws,Dv.ai,Dv.ci,Dv.md,Dv.a1,Dv.c1,Dv.a2,Dv.c2⟩:DE)) HV.out.1.1 HV.out.1.2.1 HV.out.1.2.2.1 HV.out.1.2.2.2 HV.out.2.1 HV.out.2.2.1 (show DE.own B V2 (⟨Dv.kind,Dv.name,Dv.nodes,Dv.an,Dv.cn,((dn:Int)-1-Dv.ref),Dv.vm,Dv.vx,Dv.wk,Dv.wv,Dv.av,Dv.cv,Dv.ws,Dv.ai,Dv.ci,Dv.md,Dv.a1,Dv.c1,Dv.a2,Dv.c2⟩:DE) from⟨HV.out.2.2.2.nodes,HV.out.2.2.2.wv,HV.out.2.2.2.ws,HV.out.2.2.2.gs,HV.out.2.2.2.vs⟩) (by decide) HB.out.2.1 HEL.out hit)
       have HS:=hid' (turn_step (D2:=(⟨Dv.kind,Dv.name,Dv.nodes,Dv.an,Dv.cn,((dn:Int)-1-Dv.ref),Dv.vm,Dv.vx,Dv.wk,Dv.wv,Dv.av,Dv.cv,Dv.ws,Dv.ai,Dv.ci,Dv.md,Dv.a1,Dv.c1,Dv.a2,Dv.c2⟩:DE)) HN.out hit HX.out.2.1 HX.out.2.2 HD.out (by unfold turnD;rw[if_pos (Or.inr HKD.out)]) H.out.2.2.2.1)
       have HR:=hid' (refs_step HX.out.2.1 HX.out.2.2 HD.out (fun _=>HRR.out) H.out.2.2.2.2)
       obtain⟨u,hu,oz⟩:=turn_old HV.out.2.1 HEL.out hit
       have o0:V2.cell? ⟨gb,i*13,none⟩=some (u 0):=hu 0 (by omega)
       have o1:=hu 1 (by omega)
       have o2:=hu 2 (by omega)
       have o3:=hu 3 (by omega)
       have o4:=hu 4 (by omega)
       have o5:=hu 5 (by omega)
       have o6:=hu 6 (by omega)
       have o7:=hu 7 (by omega)
       have o8:=hu 8 (by omega)
       have o9:=hu 9 (by omega)
       have o10:=hu 10 (by omega)
       have o11:=hu 11 (by omega)
       have o12:=hu 12 (by omega)
       have z0:=rD.cell 0 (.int .u8 Dv.kind)
       have z1:=rD.cell 1 (.string (X.bs Dv.name))
       have z2:=rD.cell 2 (.slice Dv.an Dv.nodes.length Dv.cn)
       have z3:=rD.cell 3 (.int .i64 ((dn:Int)-1-Dv.ref))
       have z4:=rD.cell 4 (.int .i64 Dv.vm)
       have z5:=rD.cell 5 (.int .i64 Dv.vx)
       have z6:=rD.cell 6 (.int .i64 Dv.wk)
       have z7:=rD.cell 7 (.slice Dv.av Dv.wv.length Dv.cv)
       have z8:=rD.cell 8 (.slice Dv.ai Dv.ws.length Dv.ci)
       have z9:=rD.cell 9 (.string (X.bs Dv.md.name))
       have z10:=rD.cell 10 (.int .u8 Dv.md.kind)
       have z11:=rD.cell 11 (.slice Dv.a1 Dv.md.gs.length Dv.c1)
       have z12:=rD.cell 12 (.slice Dv.a2 Dv.md.vs.length Dv.c2)
       have g1:=HV.out.1.2.2.1.cell 1 (.slice (some ⟨gb,0,none⟩) dn ecap)
       clear hu rD
       go_wp2_with fail
       go_roundw
       case rel=>
        refine⟨i+1,es.set i (⟨Dv.kind,Dv.name,Dv.nodes,Dv.an,Dv.cn,((dn:Int)-1-Dv.ref),Dv.vm,Dv.vx,Dv.wk,Dv.wv,Dv.av,Dv.cv,Dv.ws,Dv.ai,Dv.ci,Dv.md,Dv.a1,Dv.c1,Dv.a2,Dv.c2⟩:DE),by omega,by go_num,?_⟩
        exact⟨HQ.out.1,HQ.out.2.1,HQ.out.2.2,HS.out,HR.out⟩
       case measure=>show dn-((i:Int)+1).toNat<dn-(i:Int).toNat;omega
      ·have b0:=rD.cell 0 (.int .u8 Dv.kind)
       have b3:=rD.cell 3 (.int .i64 Dv.ref)
       by_cases hr1:Dv.ref<0
       ·clear hr
        go_wp2_with fail
        go_ret
        exact⟨HV.out.1.1,rfl⟩
       ·have hr2:(dn:Int)<=Dv.ref:=by omega
        clear hr
        go_wp2_with fail
        go_ret
        exact⟨HV.out.1.1,rfl⟩
     ·have HKD:=hid' (show ¬(Dv.kind=102∨Dv.kind=104) by omega)
      have k2:(Dv.kind == 104)=false:=by simpa using k8
      have b0:=rD.cell 0 (.int .u8 Dv.kind)
      clear k8 k9
      go_upto_region 15 with fail
      clear b0
      have HQ:=hid' (turn_mem (i:=i) (D:=(⟨Dv.kind,Dv.name,Dv.nodes,Dv.an,Dv.cn,Dv.ref,Dv.vm,Dv.vx,Dv.wk,Dv.wv,Dv.av,Dv.cv,Dv.ws,Dv.ai,Dv.ci,Dv.md,Dv.a1,Dv.c1,Dv.a2,Dv.c2⟩:DE)) HV.out.1.1 HV.out.1.2.1 HV.out.1.2.2.1 HV.out.1.2.2.2 HV.out.2.1 HV.out.2.2.1 (show DE.own B V (⟨Dv.kind,Dv.name,Dv.nodes,Dv.an,Dv.cn,Dv.ref,Dv.vm,Dv.vx,Dv.wk,Dv.wv,Dv.av,Dv.cv,Dv.ws,Dv.ai,Dv.ci,Dv.md,Dv.a1,Dv.c1,Dv.a2,Dv.c2⟩:DE) from⟨HV.out.2.2.2.nodes,HV.out.2.2.2.wv,HV.out.2.2.2.ws,HV.out.2.2.2.gs,HV.out.2.2.2.vs⟩) (by decide) HB.out.2.1 HEL.out hit)
      have HS:=hid' (turn_step (D2:=(⟨Dv.kind,Dv.name,Dv.nodes,Dv.an,Dv.cn,Dv.ref,Dv.vm,Dv.vx,Dv.wk,Dv.wv,Dv.av,Dv.cv,Dv.ws,Dv.ai,Dv.ci,Dv.md,Dv.a1,Dv.c1,Dv.a2,Dv.c2⟩:DE)) HN.out hit HX.out.2.1 HX.out.2.2 HD.out (by unfold turnD;rw[if_neg HKD.out]) H.out.2.2.2.1)
      have HR:=hid' (refs_step HX.out.2.1 HX.out.2.2 HD.out (fun e=>absurd e HKD.out) H.out.2.2.2.2)
      obtain⟨u,hu,oz⟩:=turn_old HV.out.2.1 HEL.out hit
      have o0:V.cell? ⟨gb,i*13,none⟩=some (u 0):=hu 0 (by omega)
      have o1:=hu 1 (by omega)
      have o2:=hu 2 (by omega)
      have o3:=hu 3 (by omega)
      have o4:=hu 4 (by omega)
      have o5:=hu 5 (by omega)
      have o6:=hu 6 (by omega)
      have o7:=hu 7 (by omega)
      have o8:=hu 8 (by omega)
      have o9:=hu 9 (by omega)
      have o10:=hu 10 (by omega)
      have o11:=hu 11 (by omega)
      have o12:=hu 12 (by omega)
      have z0:=rD.cell 0 (.int .u8 Dv.kind)
      have z1:=rD.cell 1 (.string (X.bs Dv.name))
      have z2:=rD.cell 2 (.slice Dv.an Dv.nodes.length Dv.cn)
      have z3:=rD.cell 3 (.int .i64 Dv.ref)
      have z4:=rD.cell 4 (.int .i64 Dv.vm)
      have z5:=rD.cell 5 (.int .i64 Dv.vx)
      have z6:=rD.cell 6 (.int .i64 Dv.wk)
      have z7:=rD.cell 7 (.slice Dv.av Dv.wv.length Dv.cv)
      have z8:=rD.cell 8 (.slice Dv.ai Dv.ws.length Dv.ci)
      have z9:=rD.cell 9 (.string (X.bs Dv.md.name))
      have z10:=rD.cell 10 (.int .u8 Dv.md.kind)
      have z11:=rD.cell 11 (.slice Dv.a1 Dv.md.gs.length Dv.c1)
      have z12:=rD.cell 12 (.slice Dv.a2 Dv.md.vs.length Dv.c2)
      have g1:=HV.out.1.2.2.1.cell 1 (.slice (some ⟨gb,0,none⟩) dn ecap)
      clear hu rD
      go_wp2_with fail
      go_roundw
      case rel=>
       refine⟨i+1,es.set i (⟨Dv.kind,Dv.name,Dv.nodes,Dv.an,Dv.cn,Dv.ref,Dv.vm,Dv.vx,Dv.wk,Dv.wv,Dv.av,Dv.cv,Dv.ws,Dv.ai,Dv.ci,Dv.md,Dv.a1,Dv.c1,Dv.a2,Dv.c2⟩:DE),by omega,by go_num,?_⟩
       exact⟨HQ.out.1,HQ.out.2.1,HQ.out.2.2,HS.out,HR.out⟩
      case measure=>show dn-((i:Int)+1).toNat<dn-(i:Int).toNat;omega
   ·have hii:¬(i:Int)<(dn:Int):=by omega
    obtain rfl:dn=i:=by omega
    have HM1:=turned_end HN.out H.out.2.2.2.1
    have HSZ:=hid' (turned_sz HM1 (fun d hd=>(HA.out.2.2.2.2.2 d hd).1))
    have hsb:=same_bare2 HM1 fm fx fk ns mo
    have hom:=order_math2 fm fx fk ns ds mo (refs_end HN.out H.out.2.2.2.2)
    have HM:=hid' (And.intro (hsb.1.trans hom.1) (And.intro (hsb.2.1.trans hom.2.1) (show (looR fm fx fk ns es mo).length=(looR fm fx fk ns ds mo).length by rw[hsb.2.2];exact hom.2.2)))
    have HQ:=hid' (own_caps H.out.1.2.2.2)
    have HI:=hid' (And.intro H.out.1.1 (And.intro H.out.1.2.1 (And.intro H.out.1.2.2.1 (And.intro H.out.1.2.2.2.rs (OwnD.dsr H.out.2.1 H.out.2.2.1)))))
    have HSA:=hid' (fun d hd=>(HA.out.2.2.2.2.2 d hd).1)
    clear HM1 hsb hom H
    have f0:=HI.out.2.1.cell 0 (.slice fa fn fc)
    have f1:=HI.out.2.1.cell 1 (.slice da dn dc)
    have f2:=HI.out.2.1.cell 2 (.int .i64 fm)
    have f3:=HI.out.2.1.cell 3 (.int .i64 fx)
    have f4:=HI.out.2.1.cell 4 (.int .i64 fk)
    go_wp2_with fail
    refine(Floats_any fa fn fc da dn dc fm fx fk mo ns ds _ (HA.out.1.kept HI.out.1) HA.out.2.1 HA.out.2.2.1 HA.out.2.2.2.1 (HA.out.2.2.2.2.1.kept HI.out.1) HSA.out (HLE.out.1.kept HI.out.1) (HLE.out.2.1.kept HI.out.1) (HLE.out.2.2.kept HI.out.1)).mono ?_
    rintro e w_a ⟨hk,pa,na,ca,rfl,hla,hv⟩
    have HI:=hid' (And.intro (HI.out.1.trans hk) (And.intro (HI.out.2.1.kept hk) (And.intro (HI.out.2.2.1.kept hk) (And.intro (HI.out.2.2.2.1.kept hk) (HI.out.2.2.2.2.kept hk)))))
    have HIa:=hid' hv.isl
    have HNa:=hid' hla
    clear hk hv hla f0 f1 f2 f3 f4
    have g0:=HI.out.2.2.1.cell 0 (.slice (some ⟨gn,0,none⟩) fn cn)
    have g1:=HI.out.2.2.1.cell 1 (.slice ea dn ecap)
    have g2:=HI.out.2.2.1.cell 2 (.int .i64 fm)
    have g3:=HI.out.2.2.1.cell 3 (.int .i64 fx)
    have g4:=HI.out.2.2.1.cell 4 (.int .i64 fk)
    go_wp2_with fail
    refine(Floats_any (some ⟨gn,0,none⟩) fn cn ea dn ecap fm fx fk mo ns es _ HI.out.2.2.2.1 HQ.out.1 HQ.out.2 HA.out.2.2.2.1 HI.out.2.2.2.2 HSZ.out (HLE.out.1.kept HI.out.1) (HLE.out.2.1.kept HI.out.1) (HLE.out.2.2.kept HI.out.1)).mono ?_
    rintro e w_b ⟨hk,pb,nb,cb,rfl,hlb,hv⟩
    have HI:=hid' (And.intro (HI.out.1.trans hk) (And.intro (HI.out.2.1.kept hk) (And.intro (HI.out.2.2.1.kept hk) (And.intro (HI.out.2.2.2.1.kept hk) (HI.out.2.2.2.2.kept hk)))))
    have HIa:=hid' (HIa.out.kept hk)
    have HIb:=hid' hv.isl
    have HNb:=hid' hlb
    clear hk hv hlb g0 g1 g2 g3 g4
    have f0:=HI.out.2.1.cell 0 (.slice fa fn fc)
    have f1:=HI.out.2.1.cell 1 (.slice da dn dc)
    have f2:=HI.out.2.1.cell 2 (.int .i64 fm)
    have f3:=HI.out.2.1.cell 3 (.int .i64 fx)
    have f4:=HI.out.2.1.cell 4 (.int .i64 fk)
    go_wp2_with fail
    refine(Loops_any fa fn fc da dn dc fm fx fk mo ns ds _ (HA.out.1.kept HI.out.1) HA.out.2.1 HA.out.2.2.1 HA.out.2.2.2.1 (HA.out.2.2.2.2.1.kept HI.out.1) HSA.out (HLE.out.1.kept HI.out.1) (HLE.out.2.1.kept HI.out.1) (HLE.out.2.2.kept HI.out.1)).mono ?_
    rintro e w_c ⟨hk,pc,nc,cc,rfl,hlc,hv⟩
    have HI:=hid' (And.intro (HI.out.1.trans hk) (And.intro (HI.out.2.1.kept hk) (And.intro (HI.out.2.2.1.kept hk) (And.intro (HI.out.2.2.2.1.kept hk) (HI.out.2.2.2.2.kept hk)))))
    have HIa:=hid' (HIa.out.kept hk)
    have HIb:=hid' (HIb.out.kept hk)
    have HNc:=hid' hlc
    clear hk hv hlc f0 f1 f2 f3 f4
    have g0:=HI.out.2.2.1.cell 0 (.slice (some ⟨gn,0,none⟩) fn cn)
    have g1:=HI.out.2.2.1.cell 1 (.slice ea dn ecap)
    have g2:=HI.out.2.2.1.cell 2 (.int .i64 fm)
    have g3:=HI.out.2.2.1.cell 3 (.int .i64 fx)
    have g4:=HI.out.2.2.1.cell 4 (.int .i64 fk)
    go_wp2_with fail
    refine(Loops_any (some ⟨gn,0,none⟩) fn cn ea dn ecap fm fx fk mo ns es _ HI.out.2.2.2.1 HQ.out.1 HQ.out.2 HA.out.2.2.2.1 HI.out.2.2.2.2 HSZ.out (HLE.out.1.kept HI.out.1) (HLE.out.2.1.kept HI.out.1) (HLE.out.2.2.kept HI.out.1)).mono ?_
    rintro e w_d ⟨hk,pd,nd,cd,rfl,hld,hv⟩
    have HI:=hid' (And.intro (HI.out.1.trans hk) (And.intro (HI.out.2.1.kept hk) (And.intro (HI.out.2.2.1.kept hk) (And.intro (HI.out.2.2.2.1.kept hk) (HI.out.2.2.2.2.kept hk)))))
    have HIa:=hid' (HIa.out.kept hk)
    have HIb:=hid' (HIb.out.kept hk)
    have HNd:=hid' hld
    clear hk hv hld g0 g1 g2 g3 g4
    rw[HM.out.1]
    obtain rfl:na=nb:=by have h1:=HNa.out;have h2:=HNb.out;rw[HM.out.2.1]at h2;omega
    obtain rfl:nc=nd:=by have h1:=HNc.out;have h2:=HNd.out;have h3:=HM.out.2.2;omega
    have hBa:na<=9223372036854775807:=by have h1:=HNa.out;have:=floR_len fm fx fk ns ds mo;omega
    have HIb:=hid' (show ISl w_d (.slice pb na cb) (floR fm fx fk ns ds mo) by rw[<-HM.out.2.1];exact HIb.out)
    generalize refT fm fx fk ns ds mo=z
    go_wp2_with fail
    refine(ints_same pa na ca pb cb _ _ HIa.out HIb.out hBa).mono ?_
    rintro e w9 ⟨hk,rfl⟩
    have HK:=hid' (HI.out.1.trans hk)
    clear hk
    go_wp2_with fail
    go_ret
    exact⟨HK.out,rfl⟩
end V
end Go.Proofs.YtdjhmgmjiglcbaaGreatDoor
namespace Go.Proofs.YtdjhmgmjiglcbaaGreatDoor
open Go.ChangeShapes Go.WideShapes Go.ChangeAt Go.RowKit Go.Joins Go.Deep
namespace V
open X (bs RS)
theorem cells_dev:Tryz.prog.cellsOf 48=13:=by kernel_rfl
theorem cells_flat:Tryz.prog.cellsOf 27=5:=by kernel_rfl
theorem cells_devs:Tryz.prog.cellsOf 23=1:=by kernel_rfl
theorem cells_model':Tryz.prog.cellsOf 46=4:=by kernel_rfl
theorem weights_mem_all {H:Type}{P:Program}{e:TypeId}{d:DataW H}{l:List (DataW H)}(h:d∈l):∀x∈d.weights P e,x∈DataW.weightsAll P e l:=by
 induction l with
 |nil=>cases h
 |cons y r ih=>
  intro x hx
  rw[DataW.weightsAll]
  rcases List.mem_cons.1 h with rfl|h2
  ·exact List.mem_append_left _ hx
  ·exact List.mem_append_right _ (ih h2 x hx)
theorem array5 {α:Type}{cs:Array α}(h:cs.size=5):∃c0 c1 c2 c3 c4,cs=#[c0,c1,c2,c3,c4]:=by
 obtain⟨l⟩:=cs
 match l,h with
 | [c0,c1,c2,c3,c4],_=>exact⟨c0,c1,c2,c3,c4,rfl⟩
theorem trod_struct7 {H:Type}{enc:TypeId×Value->H}{P:Program}{w:World}{base:Nat}{spare:Nat->Bool}{held:Bool}{t:TypeId}{f0 f1 f2 f3 f4 f5 f6:Field}{fuel:Nat}{cs:List Value}{x:DataW H×List MemPlace}(ht:P.underlying t=some (.struct #[f0,f1,f2,f3,f4,f5,f6]))(h:DataW.trod enc P w base spare held fuel t cs=some x) :
  ∃y0 y1 y2 y3 y4 y5 y6 n,x.1=.agg [y0.1,y1.1,y2.1,y3.1,y4.1,y5.1,y6.1]/\DataW.trod enc P w base spare held n f0.type ((cs.drop f0.offset).take (P.cellsOf f0.type))=some y0 /\
   DataW.trod enc P w base spare held n f1.type ((cs.drop f1.offset).take (P.cellsOf f1.type))=some y1/\DataW.trod enc P w base spare held n f2.type ((cs.drop f2.offset).take (P.cellsOf f2.type))=some y2 /\
   DataW.trod enc P w base spare held n f3.type ((cs.drop f3.offset).take (P.cellsOf f3.type))=some y3/\DataW.trod enc P w base spare held n f4.type ((cs.drop f4.offset).take (P.cellsOf f4.type))=some y4 /\
   DataW.trod enc P w base spare held n f5.type ((cs.drop f5.offset).take (P.cellsOf f5.type))=some y5/\DataW.trod enc P w base spare held n f6.type ((cs.drop f6.offset).take (P.cellsOf f6.type))=some y6:=by
 obtain⟨xs,n,_,rfl,hl,hlen,hf⟩:=DataW.trod_struct ht h
 match xs,hlen with
 | [y0,y1,y2,y3,y4,y5,y6],_=>exact⟨y0,y1,y2,y3,y4,y5,y6,n,by simp,by simpa using hf 0 f0 rfl,by simpa using hf 1 f1 rfl,by simpa using hf 2 f2 rfl,by simpa using hf 3 f3 rfl,by simpa using hf 4 f4 rfl,by simpa using hf 5 f5 rfl,by simpa using hf 6 f6 rfl⟩
theorem isl_len {W:World}{ao:Option Addr}{n c:Nat}{l:List Int}(h:ISl W (.slice ao n c) l):n=l.length:=by
 obtain⟨_,_,e,_⟩:=h
 simp at e
 exact e.2.1
theorem nsl_len {W:World}{ao:Option Addr}{n c:Nat}{l:List (Int×Int)}(h:NSl W (.slice ao n c) l):n=l.length:=by
 obtain⟨_,_,e,_⟩:=h
 simp at e
 exact e.2.1
theorem rs_len' {W:World}{ao:Option Addr}{n c:Nat}{l:List (List UInt8)}(h:RS W (.slice ao n c) l):n=l.length:=by
 obtain⟨_,_,e,_⟩:=h
 simp at e
 exact e.2.1
theorem open_dev {H:Type}{enc:TypeId×Value->H}{W:World}{fuel:Nat}{c0 c1 c2 c3 c4 c5 c6 c7 c8 c9 c10 c11 c12:Value}{y:DataW H×List MemPlace}(h:DataW.trod enc Tryz.prog W 0 (fun _=>true) true fuel 48 [c0,c1,c2,c3,c4,c5,c6,c7,c8,c9,c10,c11,c12]=some y)(hz:∀x∈y.1.weights Tryz.prog 48,x<=reachBytes) :
  ∃d:DE,[c0,c1,c2,c3,c4,c5,c6,c7,c8,c9,c10,c11,c12]=d.cells/\d.ok W/\d.sz:=by
 obtain⟨y0,y1,y2,y3,y4,y5,y6,q,hy,h0,h1,h2,h3,h4,h5,h6⟩:=trod_struct7 (cs:=[c0,c1,c2,c3,c4,c5,c6,c7,c8,c9,c10,c11,c12]) Tryz.underlying48 h
 simp only[cells_u8,List.drop_zero,List.take_succ_cons,List.take_zero]at h0
 simp only[cells_str,List.drop_succ_cons,List.drop_zero,List.take_succ_cons,List.take_zero]at h1
 simp only[cells_ints,List.drop_succ_cons,List.drop_zero,List.take_succ_cons,List.take_zero]at h2
 simp only[cells_i,List.drop_succ_cons,List.drop_zero,List.take_succ_cons,List.take_zero]at h3
 simp only[cells_num,List.drop_succ_cons,List.drop_zero,List.take_succ_cons,List.take_zero]at h4
 simp only[cells_wave,List.drop_succ_cons,List.drop_zero,List.take_succ_cons,List.take_zero]at h5
 simp only[cells_model',List.drop_succ_cons,List.drop_zero,List.take_succ_cons,List.take_zero]at h6
 obtain⟨k,e0,_,_⟩:=DataW.trod_int Tryz.underlying5 h0
 obtain⟨s,e1,d1,_⟩:=DataW.trod_string Tryz.underlying9 h1
 obtain⟨rf,e3,_,_⟩:=DataW.trod_int Tryz.underlying3 h3
 simp at e0 e1 e3
 subst e0 e1 e3
 obtain⟨m,x,rfl,rfl,_,_⟩:=open_pair h4
 obtain⟨an,nn,cn,nds,rfl,rn,wn⟩:=open_isl h2
 obtain⟨z0,z1,z2,q',hy5,_,g0,g1,g2⟩:=trod_struct3 (cs:=[c6,c7,c8]) Tryz.underlying44 h5
 simp only[cells_i,List.drop_zero,List.take_succ_cons,List.take_zero]at g0
 simp only[cells_nums,List.drop_succ_cons,List.drop_zero,List.take_succ_cons,List.take_zero]at g1
 simp only[cells_ints,List.drop_succ_cons,List.drop_zero,List.take_succ_cons,List.take_zero]at g2
 obtain⟨wk,e6,_,_⟩:=DataW.trod_int Tryz.underlying3 g0
 simp at e6
 subst e6
 obtain⟨av,nv,cv,wvl,rfl,rv,_⟩:=open_nsl g1
 obtain⟨ai,ni,ci,wsl,rfl,ri,_⟩:=open_isl g2
 obtain⟨u0,u1,u2,u3,q2,hy6,_,t0,t1,t2,t3⟩:=trod_struct4 (cs:=[c9,c10,c11,c12]) Tryz.underlying46 h6
 simp only[cells_str,List.drop_zero,List.take_succ_cons,List.take_zero]at t0
 simp only[cells_u8,List.drop_succ_cons,List.drop_zero,List.take_succ_cons,List.take_zero]at t1
 simp only[cells_nums,List.drop_succ_cons,List.drop_zero,List.take_succ_cons,List.take_zero]at t2
 simp only[cells_nums,List.drop_succ_cons,List.drop_zero,List.take_succ_cons,List.take_zero]at t3
 obtain⟨ms,e9,_,wms⟩:=DataW.trod_string Tryz.underlying9 t0
 obtain⟨mk,e10,_,_⟩:=DataW.trod_int Tryz.underlying5 t1
 simp at e9 e10
 subst e9 e10
 obtain⟨a1,n1,c1,gs,rfl,r1,w1⟩:=open_nsl t2
 obtain⟨a2,n2,c2,vs,rfl,r2,w2⟩:=open_nsl t3
 obtain rfl:=isl_len rn
 obtain rfl:=nsl_len rv
 obtain rfl:=isl_len ri
 obtain rfl:=nsl_len r1
 obtain rfl:=nsl_len r2
 have hy6':y6.1=.agg [u0.1,u1.1,u2.1,u3.1]:=by rw[hy6]
 rw[hy]at hz
 simp only[DataW.weights,Tryz.underlying48,DataW.weightsEach,List.map_cons,List.map_nil,List.mem_append]at hz
 have hz1:=fun x hx=>hz x (Or.inr (Or.inl hx))
 have hz2:=fun x hx=>hz x (Or.inr (Or.inr (Or.inl hx)))
 have hz6:=fun x hx=>hz x (Or.inr (Or.inr (Or.inr (Or.inr (Or.inr (Or.inr (Or.inl hx)))))))
 rw[hy6']at hz6
 simp only[DataW.weights,Tryz.underlying46,DataW.weightsEach,List.map_cons,List.map_nil,List.mem_append]at hz6
 have hw1:=w1 (fun x hx=>hz6 x (Or.inr (Or.inr (Or.inl hx))))
 have hw2:=w2 (fun x hx=>hz6 x (Or.inr (Or.inr (Or.inr (Or.inl hx)))))
 have hwn:=wn hz2
 have hnm:s.size<=reachBytes:=hz1 _ (by
  rw[d1]
  simp[DataW.weights])
 refine⟨⟨k,s.data.toList,nds,an,cn,rf,m,x,wk,wvl,av,cv,wsl,ai,ci,⟨ms.data.toList,mk,gs,vs⟩,a1,c1,a2,c2⟩,rfl,⟨rn,rv,ri,r1,r2⟩,⟨?_,?_,?_,?_,?_⟩⟩
 ·show nds.length<=_
  omega
 ·show s.data.toList.length<=_
  rw[X.len_list]
  unfold reachBytes at hnm
  omega
 ·show ms.data.toList.length<=_
  rw[X.len_list]
  unfold maxLen at wms
  omega
 ·show gs.length<=_
  omega
 ·show vs.length<=_
  omega
theorem open_devs {H:Type}{enc:TypeId×Value->H}{W:World}{fuel:Nat}{c0:Value}{y:DataW H×List MemPlace}(h:DataW.trod enc Tryz.prog W 0 (fun _=>true) true fuel 23 [c0]=some y)(hz:∀x∈y.1.weights Tryz.prog 23,x<=reachBytes) :
  ∃ao n c ds,c0=.slice ao n c/\DsR W (.slice ao n c) ds/\(∀d∈ds,d.sz)/\n<=9223372036854775807:=by
 rcases open_slice Tryz.underlying23 h with ⟨hcs,hy⟩|⟨a,len,cap,mm,nn,D,Pl,hcs,_,hl,hm,hmm,rfl,hx⟩
 ·simp at hcs
  subst hcs
  exact⟨none,0,0,[],rfl,⟨⟨none,0,rfl,fun h=>absurd h (by decide)⟩,fun d hd=>by cases hd⟩,fun d hd=>(by cases hd),by omega⟩
 ·simp at hcs
  subst hcs
  rw[if_pos rfl]at hmm
  simp only[DataW.weights,Tryz.underlying23,List.mem_cons,List.mem_append]at hz
  by_cases hN:0<len
  ·have hspot:a.spot=none:=by
    obtain⟨cs',h1,_⟩:=hx 0 (by omega)
    rw[cells_dev]at h1
    obtain⟨_,hlen4,hc⟩:=World.cells?_some h1
    have h0:=hc 0 (by omega)
    simp[Addr.add]at h0
    exact World.cell?_spot (h0.trans (List.getElem?_eq_getElem (by omega)))
   obtain⟨b,off,spot⟩:=a
   simp at hspot
   subst hspot
   haveI:Inhabited DE:=⟨⟨0,[],[],none,0,0,0,0,0,[],none,0,[],none,0,⟨[],0,[],[]⟩,none,0,none,0⟩⟩
   obtain⟨F,hF⟩:=choose_lt (n:=len) (p:=fun i (d:DE)=>(∀j,j<13->W.cell? ⟨b,off+i*13+j,none⟩=some (d.cells.getD j undef))/\d.ok W/\d.sz) (fun i hi=>by
    obtain⟨cs',h1,h2⟩:=hx i (by omega)
    rw[cells_dev]at h1
    obtain⟨_,hlen4,hc⟩:=World.cells?_some h1
    have hzi:∀x∈(D i).weights Tryz.prog 48,x<=reachBytes:=fun x hx=>hz x (Or.inr (Or.inl (weights_mem_all (List.mem_map.2 ⟨i,List.mem_range.2 hi,rfl⟩) x hx)))
    match cs',hlen4 with
    | [x0,x1,x2,x3,x4,x5,x6,x7,x8,x9,x10,x11,x12],_=>
     obtain⟨d,hd,hok,hsz⟩:=open_dev h2 hzi
     refine⟨d,fun j hj=>?_,hok,hsz⟩
     have add4:∀q j,((⟨b,off,none⟩:Addr).add q).add j=⟨b,off+q+j,none⟩:=fun q j=>by
      unfold Addr.add
      by_cases hi0:q=0 <;> by_cases hj0:j=0 <;> simp[hi0,hj0]
     have cj:=hc j (by omega)
     rw[add4,hd]at cj
     rw[cj,List.getD_eq_getElem?_getD]
     have:j<d.cells.length:=hj
     rw[List.getElem?_eq_getElem this]
     rfl)
   have hblt:b<W.heap.size:=World.block_lt_of_cell? W _ (by have:=(hF 0 hN).1 0 (by omega);exact this)
   refine⟨some ⟨b,off,none⟩,len,cap,(List.range len).map F,rfl,⟨⟨some ⟨b,off,none⟩,cap,by simp,fun _=>⟨b,off,rfl,hblt,fun j hj i hi=>?_⟩⟩,?_⟩,?_,by unfold maxLen at hm;omega⟩
   ·have hj':j<len:=by simpa using hj
    rw[(hF j hj').1 i hi]
    rw[List.getD_eq_getElem?_getD (l:=List.map DE.cells _),List.getElem?_map,List.getElem?_map,List.getElem?_range hj']
    rfl
   ·intro d hd
    obtain⟨i,hi,rfl⟩:=List.mem_map.1 hd
    exact(hF i (List.mem_range.1 hi)).2.1
   ·intro d hd
    obtain⟨i,hi,rfl⟩:=List.mem_map.1 hd
    exact(hF i (List.mem_range.1 hi)).2.2
  ·obtain rfl:len=0:=by omega
   exact⟨some a,0,cap,[],rfl,⟨⟨some a,cap,rfl,fun h=>absurd h (by decide)⟩,fun d hd=>by cases hd⟩,fun d hd=>(by cases hd),by omega⟩
theorem open_names {H:Type}{enc:TypeId×Value->H}{W:World}{fuel:Nat}{c0:Value}{y:DataW H×List MemPlace}(h:DataW.trod enc Tryz.prog W 0 (fun _=>true) true fuel 22 [c0]=some y)(hz:∀x∈y.1.weights Tryz.prog 22,x<=reachBytes) :
  ∃ao n c l,c0=.slice ao n c/\RS W (.slice ao n c) l/\n<=c/\c<=9223372036854775807/\∀x∈l,x.length<=4611686018427387903:=by
 obtain⟨ao,n,c,l,rfl,h1,h2,h3,_,_⟩:=open_rs h
 refine⟨ao,n,c,l,rfl,h1,h2,h3,?_⟩
 rcases open_strings Tryz.underlying22 Tryz.underlying9 cells_strs1 h with ⟨hcs,_⟩|⟨a,len,cap,ss,hcs,_,hl,hm,hz',hx,hcell,_⟩
 ·simp only[List.cons.injEq,Value.slice.injEq,and_true]at hcs
  obtain⟨rfl,rfl,rfl⟩:=hcs
  have:=rs_len' h1
  obtain rfl:l=[]:=List.eq_nil_of_length_eq_zero this.symm
  intro x hx
  cases hx
 ·simp only[List.cons.injEq,Value.slice.injEq,and_true]at hcs
  obtain⟨rfl,rfl,rfl⟩:=hcs
  rw[if_pos rfl]at hz'
  obtain⟨d,p⟩:=y
  simp only[Prod.mk.injEq]at hx
  obtain⟨rfl,_⟩:=hx
  simp only[DataW.weights,Tryz.underlying22,List.mem_cons,List.mem_append]at hz
  intro x hx
  obtain⟨j,hj,rfl⟩:=List.getElem_of_mem hx
  have hjn:j<n:=by have:=rs_len' h1;omega
  obtain⟨ao2,cap2,e2,hc2⟩:=h1
  simp only[Value.slice.injEq]at e2
  obtain⟨rfl,-,rfl⟩:=e2
  obtain⟨b,off,e3,_,hcc⟩:=hc2 (by omega)
  simp only[Option.some.injEq]at e3
  subst e3
  have c1:=hcc j hj
  have c2:=hcell j (by omega)
  have ha:(⟨b,off,none⟩:Addr).add j=⟨b,off+j,none⟩:=by
   unfold Addr.add
   by_cases hj0:j=0 <;> simp[hj0]
  rw[ha,c1]at c2
  have e4:ss.getD j ByteArray.empty=ss[j]'(by omega):=by rw[List.getD_eq_getElem?_getD,List.getElem?_eq_getElem (by omega)];rfl
  have e5:l.getD j []=l[j]:=by rw[List.getD_eq_getElem?_getD,List.getElem?_eq_getElem hj];rfl
  rw[e4,e5]at c2
  simp only[Option.some.injEq,Value.string.injEq]at c2
  have hmem:ss[j]'(by omega)∈ss.take n:=by
   rw[List.mem_take_iff_getElem]
   exact⟨j,by omega,rfl⟩
  have:=hz (l[j].length) (Or.inr (Or.inl (weights_mem_all (d:=DataW.lit (.string (ss[j]'(by omega)).data.toList)) (List.mem_map.2 ⟨_,hmem,rfl⟩) _ (by
   rw[<-c2]
   simp[DataW.weights,X.bs_list]))))
  unfold reachBytes at this
  omega
end V
end Go.Proofs.YtdjhmgmjiglcbaaGreatDoor
