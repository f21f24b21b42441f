/- Lemmas. -/
import Derived.Test.YtdjhmgmjiglcbaaGreatDoorGaa
import Derived.OwnWalk
import Derived.Deep.AppendLies
import Derived.Deep.RegionHeld3
import Derived.Laws.IdiomStrings
import Derived.Lib.QuietBelow
import Derived.Test.YtdjhmgmjiglcbaaGreatDoorGao
import Derived.SliceStrings
set_option maxRecDepth 100000
namespace Go.Proofs.YtdjhmgmjiglcbaaGreatDoor
open Go.RowKit
namespace X
theorem hid' {p:Prop}(h:p):Hid p:=h
def bs (l:List UInt8):ByteArray:=⟨l.toArray⟩
theorem bs_list (l:List UInt8):(bs l).data.toList=l:=rfl
theorem bs_back (s:ByteArray):bs s.data.toList=s:=rfl
theorem bs_size (l:List UInt8):(bs l).size=l.length:=by unfold bs;simp[ByteArray.size]
theorem len_list (s:ByteArray):s.data.toList.length=s.size:=by rw[Array.length_toList];rfl
theorem list_at (s:ByteArray)(k:Nat)(h:k<s.size):s.data.toList[k]?=some s[k]:=by
 rw[List.getElem?_eq_getElem (by rw[Array.length_toList];exact h)];rfl
theorem info_str:(Tryz.prog.info? 9).map (fun i=>(i.zero,i.size,i.bytes))=some (some (.string ByteArray.empty),1,16):=by kernel_rfl
theorem und_strs:Tryz.prog.underlying 22=some (.slice 9):=by kernel_rfl
def strs (ws:List (List UInt8)):List Value:=ws.map fun l=>.string (bs l)
theorem strs_len (ws:List (List UInt8)):(strs ws).length=ws.length*1:=by simp[strs]
theorem strs_one (ws:List (List UInt8)):∀u∈strs ws,u.oneCell'=true:=by
 intro u hu
 obtain⟨p,_,rfl⟩:=List.mem_map.1 hu
 rfl
theorem strs_app (a b:List (List UInt8)):strs (a++b)=strs a++strs b:=List.map_append
theorem strs_at (ws:List (List UInt8))(j:Nat)(h:j<ws.length):(strs ws)[j]?=some (.string (bs (ws.getD j []))):=by
 simp[strs,h]
def OwnS (B:Nat)(w:World)(v:Value)(ws:List (List UInt8)):Prop:=w.ownsRow B 9 1 v ws.length (strs ws)
theorem OwnS.nil (B:Nat)(w:World):OwnS B w (.slice none 0 0) []:=World.ownsRow_nil _ _ _ _
theorem OwnS.kept {B:Nat}{w w':World}{v:Value}{ws:List (List UInt8)}(h:OwnS B w v ws)(k:Kept w w'):OwnS B w' v ws:=by
 obtain⟨h1,h2|⟨g,cap,cur,h2,h3,h4,h5⟩⟩:=h
 ·exact⟨h1,.inl h2⟩
 ·exact⟨h1,.inr ⟨g,cap,cur,h2,h3,(k.block g (by
   rcases Nat.lt_or_ge g w.heap.size with hlt|hge
   ·exact hlt
   ·rw[Array.getElem?_eq_none hge]at h4;cases h4)).trans h4,h5⟩⟩
theorem cell_new (w:World)(x:Value)(t:TypeId):∀j u,([x]:List Value)[j]?=some u->(w.alloc (.cells #[x] t)).cell? ((⟨w.heap.size,0,none⟩:Addr).add j)=some u:=by
 intro j u hj
 match j,hj with
 |0,hj=>simp at hj;subst hj;simp[Addr.add]
theorem OwnS.shape {B:Nat}{w:World}{v:Value}{ws:List (List UInt8)}(h:OwnS B w v ws):∃ao cap,v=.slice ao ws.length cap:=by
 obtain⟨_,⟨h2,h3⟩|⟨g,cap,cur,h2,_⟩⟩:=h
 ·exact⟨none,0,by rw[h2,h3]⟩
 ·exact⟨_,_,h2⟩
theorem OwnS.read {B:Nat}{w:World}{v:Value}{ws:List (List UInt8)}(h:OwnS B w v ws)(h0:0<ws.length):∃g cap,v=.slice (some ⟨g,0,none⟩) ws.length cap/\B<=g/\g<w.heap.size/\ws.length<=cap/\(∀j,j<ws.length->w.cell? ⟨g,j,none⟩=some (.string (bs (ws.getD j []))))/\∀j,w.frozen? ⟨g,j,none⟩=false:=by
 obtain⟨_,⟨_,h3⟩|⟨g,cap,cur,h2,hB,hg,hn,_,hs,ht⟩⟩:=h
 ·omega
 ·have hlt:g<w.heap.size:=by
   rcases Nat.lt_or_ge g w.heap.size with hlt|hge
   ·exact hlt
   ·rw[Array.getElem?_eq_none hge]at hg;cases hg
  refine⟨g,cap,h2,hB,hlt,hn,fun j hj=>?_,fun j=>by simp[World.frozen?,hg]⟩
  have:=strs_at ws j hj
  rw[<-ht,List.getElem?_take_of_lt (by omega),Array.getElem?_toList]at this
  simp[World.cell?,hg,this]
theorem OwnS.mono {B B':Nat}{w:World}{v:Value}{ws:List (List UInt8)}(h:OwnS B w v ws)(hB:B'<=B):OwnS B' w v ws:=by
 obtain⟨h1,h2|⟨g,cap,cur,h2,h3,h4⟩⟩:=h
 ·exact⟨h1,.inl h2⟩
 ·exact⟨h1,.inr ⟨g,cap,cur,h2,by omega,h4⟩⟩
def RS (w:World)(v:Value)(ws:List (List UInt8)):Prop :=
 ∃ao c,v=.slice ao ws.length c/\(0<ws.length->∃b off,ao=some ⟨b,off,none⟩/\b<w.heap.size/\∀j,j<ws.length->w.cell? ⟨b,off+j,none⟩=some (.string (bs (ws.getD j []))))
theorem RS.kept {w w':World}{v:Value}{ws:List (List UInt8)}(h:RS w v ws)(k:Kept w w'):RS w' v ws:=by
 obtain⟨ao,c,rfl,h⟩:=h
 refine⟨ao,c,rfl,fun h0=>?_⟩
 obtain⟨b,off,rfl,hb,hc⟩:=h h0
 exact⟨b,off,rfl,Nat.lt_of_lt_of_le hb k.size,fun j hj=>(Below.cell k (p:=⟨b,off+j,none⟩) hb).trans (hc j hj)⟩
theorem OwnS.rs {B:Nat}{w:World}{v:Value}{ws:List (List UInt8)}(h:OwnS B w v ws):RS w v ws:=by
 by_cases h0:0<ws.length
 ·obtain⟨g,cap,rfl,_,hg,_,hc,_⟩:=h.read h0
  exact⟨_,_,rfl,fun _=>⟨g,0,rfl,hg,fun j hj=>by rw[Nat.zero_add];exact hc j hj⟩⟩
 ·obtain⟨ao,cap,rfl⟩:=h.shape
  exact⟨_,_,rfl,fun h=>absurd h h0⟩
theorem eq_of_getD {α:Type}{a b:List α}(d:α)(hl:a.length=b.length)(h:∀j,j<a.length->a.getD j d=b.getD j d):a=b:=by
 apply List.ext_getElem hl
 intro i h1 h2
 have:=h i h1
 rwa [List.getD_eq_getElem?_getD,List.getD_eq_getElem?_getD,List.getElem?_eq_getElem h1,List.getElem?_eq_getElem h2]at this
end X
end Go.Proofs.YtdjhmgmjiglcbaaGreatDoor
namespace Go.Proofs.YtdjhmgmjiglcbaaGreatDoor
open Go.ChangeShapes Go.WideShapes Go.ChangeAt Go.RowKit Go.Joins Go.Deep
namespace V
open X (bs RS)
theorem cells_strs1:Tryz.prog.cellsOf 9=1:=by kernel_rfl
theorem words_of {H:Type}{enc:TypeId×Value->H}{W:World}{fuel:Nat}{v:Value}{y:DataW H×List MemPlace}(hf:DataW.trod enc Tryz.prog W 0 (fun _=>true) true fuel 22 [v]=some y):∃(ao:Option Addr) (n c:Nat) (ws:List (List UInt8)),v=.slice ao n c/\RS W (.slice ao n c) ws/\n<=c/\c<=9223372036854775807/\∀x∈ws,x.length<=9223372036854775807:=by
 obtain⟨ao,n,c,rfl⟩:∃ao n c,v=.slice ao n c:=by
  rcases open_slice Tryz.underlying22 hf with ⟨hcs,_⟩|⟨a,len,cap,_,_,_,_,hcs,_⟩
  ·simp at hcs;exact⟨_,_,_,hcs⟩
  ·simp at hcs;exact⟨_,_,_,hcs⟩
 rcases open_strings Tryz.underlying22 Tryz.underlying9 cells_strs1 hf with ⟨hcs,_⟩|⟨a,len,cap,ss,hcs,_,hl,hm,hz,_,hcell,hws⟩
 ·simp only[List.cons.injEq,Value.slice.injEq,and_true]at hcs
  obtain⟨rfl,rfl,rfl⟩:=hcs
  exact⟨none,0,0,[],rfl,⟨none,0,rfl,fun h=>absurd h (by decide)⟩,Nat.le_refl _,by omega,by simp⟩
 ·simp only[List.cons.injEq,Value.slice.injEq,and_true]at hcs
  obtain⟨rfl,rfl,rfl⟩:=hcs
  rw[if_pos rfl]at hz
  have hm':c<=9223372036854775807:=by unfold maxLen at hm;omega
  have hln:((ss.take n).map (fun s=>s.data.toList)).length=n:=by rw[List.length_map,List.length_take];omega
  refine⟨some a,n,c,(ss.take n).map (fun s=>s.data.toList),rfl,⟨some a,c,by rw[hln],fun h0=>?_⟩,hl,hm',?_⟩
  ·rw[hln]at h0 ⊢
   have hc0:=hcell 0 (by omega)
   have hspot:a.spot=none:=by
    simp[Addr.add]at hc0
    exact World.cell?_spot hc0
   obtain⟨b,off,spot⟩:=a
   simp at hspot
   subst hspot
   refine⟨b,off,rfl,World.block_lt_of_cell? W _ (hcell 0 (by omega)),fun j hj=>?_⟩
   have hcj:=hcell j (by omega)
   have ha:(⟨b,off,none⟩:Addr).add j=⟨b,off+j,none⟩:=by
    unfold Addr.add
    by_cases hj0:j=0 <;> simp[hj0]
   rw[ha]at hcj
   have e1:ss.getD j ByteArray.empty=ss[j]'(by omega):=by rw[List.getD_eq_getElem?_getD,List.getElem?_eq_getElem (by omega)];rfl
   have e2:((ss.take n).map (fun s=>s.data.toList)).getD j []=(ss[j]'(by omega)).data.toList:=by
    rw[List.getD_eq_getElem?_getD,List.getElem?_map,List.getElem?_take_of_lt hj,List.getElem?_eq_getElem (by omega)]
    rfl
   rw[hcj,e1,e2]
   rfl
  ·intro x hx
   obtain⟨s,hs,rfl⟩:=List.mem_map.1 hx
   have:=hws s (List.mem_of_mem_take hs)
   rw[X.len_list]
   unfold maxLen at this
   omega
end V
end Go.Proofs.YtdjhmgmjiglcbaaGreatDoor
