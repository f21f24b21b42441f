/- Lists of structs in memory; slices.IndexFunc and ContainsFunc over them. -/
import Derived.Test.YtdjhmgmjiglcbaaGreatDoorGax
import Derived.Test.YtdjhmgmjiglcbaaGreatDoorGap
set_option maxRecDepth 100000
set_option maxHeartbeats 4000000
namespace Go.Proofs.YtdjhmgmjiglcbaaGreatDoor
open Go.RowKit
namespace V
open Q (hid')
open X (RS)
def RowsR (sz:Nat)(w:World)(v:Value)(L:List (List Value)):Prop :=
 ∃(ao:Option Addr) (cap:Nat),v=.slice ao L.length cap/\(0<L.length->∃b off:Nat,ao=some ⟨b,off,none⟩/\b<w.heap.size/\∀j,j<L.length->∀i,i<sz->w.cell? ⟨b,off+j*sz+i,none⟩=some ((L.getD j []).getD i undef))
theorem RowsR.kept {sz:Nat}{w w':World}{v:Value}{L:List (List Value)}(h:RowsR sz w v L)(k:Kept w w'):RowsR sz w' v L:=by
 obtain⟨ao,cap,rfl,h⟩:=h
 refine⟨ao,cap,rfl,fun h0=>?_⟩
 obtain⟨b,off,rfl,hb,hc⟩:=h h0
 exact⟨b,off,rfl,Nat.lt_of_lt_of_le hb k.size,fun j hj i hi=>(Below.cell k (p:=⟨b,off+j*sz+i,none⟩) hb).trans (hc j hj i hi)⟩
theorem RowsR.len {sz:Nat}{w:World}{ao:Option Addr}{n c:Nat}{L:List (List Value)}(h:RowsR sz w (.slice ao n c) L):n=L.length:=by
 obtain⟨_,_,e,_⟩:=h
 simp at e;exact e.2.1
theorem RowsR.take {sz:Nat}{w:World}{ao:Option Addr}{n c:Nat}{L:List (List Value)}(h:RowsR sz w (.slice ao n c) L)(k c':Nat)(hk:k<=n):RowsR sz w (.slice ao k c') (L.take k):=by
 have hn:=h.len
 obtain⟨ao',cap,e,h⟩:=h
 simp only[Value.slice.injEq]at e
 obtain⟨rfl,_,rfl⟩:=e
 have hl:(L.take k).length=k:=by rw[List.length_take];omega
 refine⟨ao,c',by rw[hl],fun h0=>?_⟩
 rw[hl]at h0 ⊢
 obtain⟨b,off,e,hb,hc⟩:=h (by omega)
 refine⟨b,off,e,hb,fun j hj i hi=>?_⟩
 rw[hc j (by omega) i hi]
 congr 2
 rw[List.getD_eq_getElem?_getD,List.getD_eq_getElem?_getD,List.getElem?_take_of_lt hj]
theorem list3 {l:List Value}(h:l.length=3):∃a b c,l=[a,b,c]:=by
 match l,h with
 | [a,b,c],_=>exact⟨a,b,c,rfl⟩
theorem list4 {l:List Value}(h:l.length=4):∃a b c d,l=[a,b,c,d]:=by
 match l,h with
 | [a,b,c,d],_=>exact⟨a,b,c,d,rfl⟩
theorem list8 {l:List Value}(h:l.length=8):∃a b c d e f g i,l=[a,b,c,d,e,f,g,i]:=by
 match l,h with
 | [a,b,c,d,e,f,g,i],_=>exact⟨a,b,c,d,e,f,g,i,rfl⟩
theorem getD_len {sz:Nat}{L:List (List Value)}(hl:∀x∈L,x.length=sz)(j:Nat)(hj:j<L.length):(L.getD j []).length=sz:=by
 rw[List.getD_eq_getElem?_getD,List.getElem?_eq_getElem hj]
 exact hl _ (List.getElem_mem hj)
theorem any_cong {α:Type}{p q:α->Bool}:∀ {l:List α},(∀x∈l,p x=q x)->l.any p=l.any q
 | [],_=>rfl
 |x::t,h=>by rw[List.any_cons,List.any_cons,h x (by simp),any_cong (l:=t) (fun y hy=>h y (by simp[hy]))]
def anyB (p:Nat->Bool)(n:Nat):Bool:=(List.range n).any p
theorem anyB_list {α:Type}(l:List α)(d:α)(q:α->Bool)(p:Nat->Bool)(n:Nat)(hn:n=l.length)(h:∀j,j<n->p j=q (l.getD j d)):anyB p n=l.any q:=by
 subst hn
 unfold anyB
 rw[<-any_range l d q]
 exact any_cong (fun j hj=>h j (List.mem_range.1 hj))
theorem idx_models (g:Nat)(lb:Array Value)(p:Nat->Bool)(eg:∀args w,(callFunc g args).run Tryz.prog w=.ok (.enter g args) w)(ao:Option Addr)(n c:Nat)(L:List (List Value))(w:World)
  (hp:∀W j,Kept w W->j<n->Calls Tryz.prog g (#[.agg (L.getD j []).toArray]++lb) W fun e w'=>e=.returned (.bool (p j))/\Kept w w') (h:RowsR 4 w (.slice ao n c) L) (hl:∀x∈L,x.length=4) (hbig:n<=9223372036854775807) :
  Calls Tryz.prog 127 #[.slice ao n c,.func (.func g) #[] lb] w fun e w'=>Kept w w'/\IdxIs e n p:=by
 have HS:=hid' h
 have HLL:=hid' hl
 clear h hl
 go_enter Tryz.func127,Tryz.ntmps127
 go_wp2
 go_loopg [5,8] n (fun gg _ s8 wr=>∃kk:Nat,kk<=n/\n-kk<=gg/\s8=.int .i64 kk/\Aside (Kept w wr)/\Aside (∀j,j<kk->p j=false))
 case atStart=>exact⟨0,Nat.zero_le _,by omega,rfl,Kept.refl w,fun j hj=>absurd hj (Nat.not_lt_zero _)⟩
 case round=>
  obtain⟨kk,hkk,hg,rfl,BW,A⟩:=hrel
  by_cases hlt:kk<n
  ·have hltz:(kk:Int)<(n:Int):=by omega
   obtain⟨ao',cap',hv,hx⟩:=HS.out.kept BW.out
   simp only[Value.slice.injEq]at hv
   obtain⟨rfl,hn,rfl⟩:=hv
   obtain⟨b,off,rfl,hb,hc⟩:=hx (by omega)
   have hcall:=hp wr kk BW.out hlt
   obtain⟨x0,x1,x2,x3,hxx⟩:=list4 (getD_len HLL.out kk (by omega))
   rw[hxx]at hcall
   have c0:=hc kk (by omega) 0 (by omega)
   have c1:=hc kk (by omega) 1 (by omega)
   have c2:=hc kk (by omega) 2 (by omega)
   have c3:=hc kk (by omega) 3 (by omega)
   rw[hxx]at c0
   simp only[List.getD_cons_zero]at c0
   rw[hxx]at c1
   simp only[List.getD_cons_zero,List.getD_cons_succ]at c1
   rw[hxx]at c2
   simp only[List.getD_cons_zero,List.getD_cons_succ]at c2
   rw[hxx]at c3
   simp only[List.getD_cons_zero,List.getD_cons_succ]at c3
   rw[Nat.add_zero]at c0
   have HN:=hid' hn
   clear hx hc hp hn hxx
   have hcall:Calls Tryz.prog g (#[.agg #[x0,x1,x2,x3]]++lb) wr fun e w'=>e=.returned (.bool (p kk))/\Kept w w':=hcall
   cases hq:p kk with
   |true=>
    rw[hq]at hcall
    have HQ:=hid' hq
    clear hq
    go_wp2_with fail
    refine hcall.mono ?_
    rintro e w' ⟨rfl,hb'⟩
    go_wp2
    go_ret
    exact⟨hb',idx_hit hlt A.out HQ.out⟩
   |false=>
    rw[hq]at hcall
    have HQ:=hid' hq
    clear hq
    go_wp2_with fail
    refine hcall.mono ?_
    rintro e w' ⟨rfl,hb'⟩
    go_wp2
    go_roundg (n-(kk+1))
    case measure=>omega
    case rel=>
     refine⟨kk+1,by omega,by omega,by go_num,hb',(show Aside _ from fun j hj=>?_)⟩
     by_cases e:j=kk
     ·subst e;exact HQ.out
     ·exact A.out j (by omega)
  ·have hltz:¬(kk:Int)<(n:Int):=by omega
   have:kk=n:=by omega
   subst this
   go_wp2
   go_ret
   exact⟨BW.out,idx_miss A.out⟩
theorem con_models (g:Nat)(lb:Array Value)(p:Nat->Bool)(eg:∀args w,(callFunc g args).run Tryz.prog w=.ok (.enter g args) w)(ao:Option Addr)(n c:Nat)(L:List (List Value))(w:World)
  (hp:∀W j,Kept w W->j<n->Calls Tryz.prog g (#[.agg (L.getD j []).toArray]++lb) W fun e w'=>e=.returned (.bool (p j))/\Kept w w') (h:RowsR 4 w (.slice ao n c) L) (hl:∀x∈L,x.length=4) (hbig:n<=9223372036854775807) :
  Calls Tryz.prog 91 #[.slice ao n c,.func (.func g) #[] lb] w fun e w'=>Kept w w'/\e=.returned (.bool (anyB p n)):=by
 have hc:=idx_models g lb p eg ao n c L w hp h hl hbig
 clear hp h
 go_enter Tryz.func91,Tryz.ntmps91
 go_wp2_with fail
 refine hc.mono ?_
 rintro e w' ⟨hk,i,hi,h1,h2,rfl⟩
 have hA:=any_of_idx hi h1 h2
 generalize (if i=n then (-1:Int) else (i:Int))=z at hA ⊢
 have HA:=hid' (show _=anyB p n from hA)
 clear hA h1 h2 hi
 go_wp2
 all_goals
  go_ret
  refine⟨hk,congrArg (fun b=>Ending.returned (Value.bool b)) ?_⟩
  rw[<-HA.out]
  try simp_all
theorem idx_subs (g:Nat)(lb:Array Value)(p:Nat->Bool)(eg:∀args w,(callFunc g args).run Tryz.prog w=.ok (.enter g args) w)(ao:Option Addr)(n c:Nat)(L:List (List Value))(w:World)
  (hp:∀W j,Kept w W->j<n->Calls Tryz.prog g (#[.agg (L.getD j []).toArray]++lb) W fun e w'=>e=.returned (.bool (p j))/\Kept w w') (h:RowsR 3 w (.slice ao n c) L) (hl:∀x∈L,x.length=3) (hbig:n<=9223372036854775807) :
  Calls Tryz.prog 131 #[.slice ao n c,.func (.func g) #[] lb] w fun e w'=>Kept w w'/\IdxIs e n p:=by
 have HS:=hid' h
 have HLL:=hid' hl
 clear h hl
 go_enter Tryz.func131,Tryz.ntmps131
 go_wp2
 go_loopg [5,8] n (fun gg _ s8 wr=>∃kk:Nat,kk<=n/\n-kk<=gg/\s8=.int .i64 kk/\Aside (Kept w wr)/\Aside (∀j,j<kk->p j=false))
 case atStart=>exact⟨0,Nat.zero_le _,by omega,rfl,Kept.refl w,fun j hj=>absurd hj (Nat.not_lt_zero _)⟩
 case round=>
  obtain⟨kk,hkk,hg,rfl,BW,A⟩:=hrel
  by_cases hlt:kk<n
  ·have hltz:(kk:Int)<(n:Int):=by omega
   obtain⟨ao',cap',hv,hx⟩:=HS.out.kept BW.out
   simp only[Value.slice.injEq]at hv
   obtain⟨rfl,hn,rfl⟩:=hv
   obtain⟨b,off,rfl,hb,hc⟩:=hx (by omega)
   have hcall:=hp wr kk BW.out hlt
   obtain⟨x0,x1,x2,hxx⟩:=list3 (getD_len HLL.out kk (by omega))
   rw[hxx]at hcall
   have c0:=hc kk (by omega) 0 (by omega)
   have c1:=hc kk (by omega) 1 (by omega)
   have c2:=hc kk (by omega) 2 (by omega)
   rw[hxx]at c0
   simp only[List.getD_cons_zero]at c0
   rw[hxx]at c1
   simp only[List.getD_cons_zero,List.getD_cons_succ]at c1
   rw[hxx]at c2
   simp only[List.getD_cons_zero,List.getD_cons_succ]at c2
   rw[Nat.add_zero]at c0
   have HN:=hid' hn
   clear hx hc hp hn hxx
   have hcall:Calls Tryz.prog g (#[.agg #[x0,x1,x2]]++lb) wr fun e w'=>e=.returned (.bool (p kk))/\Kept w w':=hcall
   cases hq:p kk with
   |true=>
    rw[hq]at hcall
    have HQ:=hid' hq
    clear hq
    go_wp2_with fail
    refine hcall.mono ?_
    rintro e w' ⟨rfl,hb'⟩
    go_wp2
    go_ret
    exact⟨hb',idx_hit hlt A.out HQ.out⟩
   |false=>
    rw[hq]at hcall
    have HQ:=hid' hq
    clear hq
    go_wp2_with fail
    refine hcall.mono ?_
    rintro e w' ⟨rfl,hb'⟩
    go_wp2
    go_roundg (n-(kk+1))
    case measure=>omega
    case rel=>
     refine⟨kk+1,by omega,by omega,by go_num,hb',(show Aside _ from fun j hj=>?_)⟩
     by_cases e:j=kk
     ·subst e;exact HQ.out
     ·exact A.out j (by omega)
  ·have hltz:¬(kk:Int)<(n:Int):=by omega
   have:kk=n:=by omega
   subst this
   go_wp2
   go_ret
   exact⟨BW.out,idx_miss A.out⟩
theorem con_subs (g:Nat)(lb:Array Value)(p:Nat->Bool)(eg:∀args w,(callFunc g args).run Tryz.prog w=.ok (.enter g args) w)(ao:Option Addr)(n c:Nat)(L:List (List Value))(w:World)
  (hp:∀W j,Kept w W->j<n->Calls Tryz.prog g (#[.agg (L.getD j []).toArray]++lb) W fun e w'=>e=.returned (.bool (p j))/\Kept w w') (h:RowsR 3 w (.slice ao n c) L) (hl:∀x∈L,x.length=3) (hbig:n<=9223372036854775807) :
  Calls Tryz.prog 94 #[.slice ao n c,.func (.func g) #[] lb] w fun e w'=>Kept w w'/\e=.returned (.bool (anyB p n)):=by
 have hc:=idx_subs g lb p eg ao n c L w hp h hl hbig
 clear hp h
 go_enter Tryz.func94,Tryz.ntmps94
 go_wp2_with fail
 refine hc.mono ?_
 rintro e w' ⟨hk,i,hi,h1,h2,rfl⟩
 have hA:=any_of_idx hi h1 h2
 generalize (if i=n then (-1:Int) else (i:Int))=z at hA ⊢
 have HA:=hid' (show _=anyB p n from hA)
 clear hA h1 h2 hi
 go_wp2
 all_goals
  go_ret
  refine⟨hk,congrArg (fun b=>Ending.returned (Value.bool b)) ?_⟩
  rw[<-HA.out]
  try simp_all
theorem idx_scopes (g:Nat)(lb:Array Value)(p:Nat->Bool)(eg:∀args w,(callFunc g args).run Tryz.prog w=.ok (.enter g args) w)(ao:Option Addr)(n c:Nat)(L:List (List Value))(w:World)
  (hp:∀W j,Kept w W->j<n->Calls Tryz.prog g (#[.agg (L.getD j []).toArray]++lb) W fun e w'=>e=.returned (.bool (p j))/\Kept w w') (h:RowsR 3 w (.slice ao n c) L) (hl:∀x∈L,x.length=3) (hbig:n<=9223372036854775807) :
  Calls Tryz.prog 134 #[.slice ao n c,.func (.func g) #[] lb] w fun e w'=>Kept w w'/\IdxIs e n p:=by
 have HS:=hid' h
 have HLL:=hid' hl
 clear h hl
 go_enter Tryz.func134,Tryz.ntmps134
 go_wp2
 go_loopg [5,8] n (fun gg _ s8 wr=>∃kk:Nat,kk<=n/\n-kk<=gg/\s8=.int .i64 kk/\Aside (Kept w wr)/\Aside (∀j,j<kk->p j=false))
 case atStart=>exact⟨0,Nat.zero_le _,by omega,rfl,Kept.refl w,fun j hj=>absurd hj (Nat.not_lt_zero _)⟩
 case round=>
  obtain⟨kk,hkk,hg,rfl,BW,A⟩:=hrel
  by_cases hlt:kk<n
  ·have hltz:(kk:Int)<(n:Int):=by omega
   obtain⟨ao',cap',hv,hx⟩:=HS.out.kept BW.out
   simp only[Value.slice.injEq]at hv
   obtain⟨rfl,hn,rfl⟩:=hv
   obtain⟨b,off,rfl,hb,hc⟩:=hx (by omega)
   have hcall:=hp wr kk BW.out hlt
   obtain⟨x0,x1,x2,hxx⟩:=list3 (getD_len HLL.out kk (by omega))
   rw[hxx]at hcall
   have c0:=hc kk (by omega) 0 (by omega)
   have c1:=hc kk (by omega) 1 (by omega)
   have c2:=hc kk (by omega) 2 (by omega)
   rw[hxx]at c0
   simp only[List.getD_cons_zero]at c0
   rw[hxx]at c1
   simp only[List.getD_cons_zero,List.getD_cons_succ]at c1
   rw[hxx]at c2
   simp only[List.getD_cons_zero,List.getD_cons_succ]at c2
   rw[Nat.add_zero]at c0
   have HN:=hid' hn
   clear hx hc hp hn hxx
   have hcall:Calls Tryz.prog g (#[.agg #[x0,x1,x2]]++lb) wr fun e w'=>e=.returned (.bool (p kk))/\Kept w w':=hcall
   cases hq:p kk with
   |true=>
    rw[hq]at hcall
    have HQ:=hid' hq
    clear hq
    go_wp2_with fail
    refine hcall.mono ?_
    rintro e w' ⟨rfl,hb'⟩
    go_wp2
    go_ret
    exact⟨hb',idx_hit hlt A.out HQ.out⟩
   |false=>
    rw[hq]at hcall
    have HQ:=hid' hq
    clear hq
    go_wp2_with fail
    refine hcall.mono ?_
    rintro e w' ⟨rfl,hb'⟩
    go_wp2
    go_roundg (n-(kk+1))
    case measure=>omega
    case rel=>
     refine⟨kk+1,by omega,by omega,by go_num,hb',(show Aside _ from fun j hj=>?_)⟩
     by_cases e:j=kk
     ·subst e;exact HQ.out
     ·exact A.out j (by omega)
  ·have hltz:¬(kk:Int)<(n:Int):=by omega
   have:kk=n:=by omega
   subst this
   go_wp2
   go_ret
   exact⟨BW.out,idx_miss A.out⟩
theorem con_scopes (g:Nat)(lb:Array Value)(p:Nat->Bool)(eg:∀args w,(callFunc g args).run Tryz.prog w=.ok (.enter g args) w)(ao:Option Addr)(n c:Nat)(L:List (List Value))(w:World)
  (hp:∀W j,Kept w W->j<n->Calls Tryz.prog g (#[.agg (L.getD j []).toArray]++lb) W fun e w'=>e=.returned (.bool (p j))/\Kept w w') (h:RowsR 3 w (.slice ao n c) L) (hl:∀x∈L,x.length=3) (hbig:n<=9223372036854775807) :
  Calls Tryz.prog 98 #[.slice ao n c,.func (.func g) #[] lb] w fun e w'=>Kept w w'/\e=.returned (.bool (anyB p n)):=by
 have hc:=idx_scopes g lb p eg ao n c L w hp h hl hbig
 clear hp h
 go_enter Tryz.func98,Tryz.ntmps98
 go_wp2_with fail
 refine hc.mono ?_
 rintro e w' ⟨hk,i,hi,h1,h2,rfl⟩
 have hA:=any_of_idx hi h1 h2
 generalize (if i=n then (-1:Int) else (i:Int))=z at hA ⊢
 have HA:=hid' (show _=anyB p n from hA)
 clear hA h1 h2 hi
 go_wp2
 all_goals
  go_ret
  refine⟨hk,congrArg (fun b=>Ending.returned (Value.bool b)) ?_⟩
  rw[<-HA.out]
  try simp_all
theorem idx_cards (g:Nat)(lb:Array Value)(p:Nat->Bool)(eg:∀args w,(callFunc g args).run Tryz.prog w=.ok (.enter g args) w)(ao:Option Addr)(n c:Nat)(L:List (List Value))(w:World)
  (hp:∀W j,Kept w W->j<n->Calls Tryz.prog g (#[.agg (L.getD j []).toArray]++lb) W fun e w'=>e=.returned (.bool (p j))/\Kept w w') (h:RowsR 8 w (.slice ao n c) L) (hl:∀x∈L,x.length=8) (hbig:n<=9223372036854775807) :
  Calls Tryz.prog 135 #[.slice ao n c,.func (.func g) #[] lb] w fun e w'=>Kept w w'/\IdxIs e n p:=by
 have HS:=hid' h
 have HLL:=hid' hl
 clear h hl
 go_enter Tryz.func135,Tryz.ntmps135
 go_wp2
 go_loopg [5,8] n (fun gg _ s8 wr=>∃kk:Nat,kk<=n/\n-kk<=gg/\s8=.int .i64 kk/\Aside (Kept w wr)/\Aside (∀j,j<kk->p j=false))
 case atStart=>exact⟨0,Nat.zero_le _,by omega,rfl,Kept.refl w,fun j hj=>absurd hj (Nat.not_lt_zero _)⟩
 case round=>
  obtain⟨kk,hkk,hg,rfl,BW,A⟩:=hrel
  by_cases hlt:kk<n
  ·have hltz:(kk:Int)<(n:Int):=by omega
   obtain⟨ao',cap',hv,hx⟩:=HS.out.kept BW.out
   simp only[Value.slice.injEq]at hv
   obtain⟨rfl,hn,rfl⟩:=hv
   obtain⟨b,off,rfl,hb,hc⟩:=hx (by omega)
   have hcall:=hp wr kk BW.out hlt
   obtain⟨x0,x1,x2,x3,x4,x5,x6,x7,hxx⟩:=list8 (getD_len HLL.out kk (by omega))
   rw[hxx]at hcall
   have c0:=hc kk (by omega) 0 (by omega)
   have c1:=hc kk (by omega) 1 (by omega)
   have c2:=hc kk (by omega) 2 (by omega)
   have c3:=hc kk (by omega) 3 (by omega)
   have c4:=hc kk (by omega) 4 (by omega)
   have c5:=hc kk (by omega) 5 (by omega)
   have c6:=hc kk (by omega) 6 (by omega)
   have c7:=hc kk (by omega) 7 (by omega)
   rw[hxx]at c0
   simp only[List.getD_cons_zero]at c0
   rw[hxx]at c1
   simp only[List.getD_cons_zero,List.getD_cons_succ]at c1
   rw[hxx]at c2
   simp only[List.getD_cons_zero,List.getD_cons_succ]at c2
   rw[hxx]at c3
   simp only[List.getD_cons_zero,List.getD_cons_succ]at c3
   rw[hxx]at c4
   simp only[List.getD_cons_zero,List.getD_cons_succ]at c4
   rw[hxx]at c5
   simp only[List.getD_cons_zero,List.getD_cons_succ]at c5
   rw[hxx]at c6
   simp only[List.getD_cons_zero,List.getD_cons_succ]at c6
   rw[hxx]at c7
   simp only[List.getD_cons_zero,List.getD_cons_succ]at c7
   rw[Nat.add_zero]at c0
   have HN:=hid' hn
   clear hx hc hp hn hxx
   have hcall:Calls Tryz.prog g (#[.agg #[x0,x1,x2,x3,x4,x5,x6,x7]]++lb) wr fun e w'=>e=.returned (.bool (p kk))/\Kept w w':=hcall
   cases hq:p kk with
   |true=>
    rw[hq]at hcall
    have HQ:=hid' hq
    clear hq
    go_wp2_with fail
    refine hcall.mono ?_
    rintro e w' ⟨rfl,hb'⟩
    go_wp2
    go_ret
    exact⟨hb',idx_hit hlt A.out HQ.out⟩
   |false=>
    rw[hq]at hcall
    have HQ:=hid' hq
    clear hq
    go_wp2_with fail
    refine hcall.mono ?_
    rintro e w' ⟨rfl,hb'⟩
    go_wp2
    go_roundg (n-(kk+1))
    case measure=>omega
    case rel=>
     refine⟨kk+1,by omega,by omega,by go_num,hb',(show Aside _ from fun j hj=>?_)⟩
     by_cases e:j=kk
     ·subst e;exact HQ.out
     ·exact A.out j (by omega)
  ·have hltz:¬(kk:Int)<(n:Int):=by omega
   have:kk=n:=by omega
   subst this
   go_wp2
   go_ret
   exact⟨BW.out,idx_miss A.out⟩
theorem con_cards (g:Nat)(lb:Array Value)(p:Nat->Bool)(eg:∀args w,(callFunc g args).run Tryz.prog w=.ok (.enter g args) w)(ao:Option Addr)(n c:Nat)(L:List (List Value))(w:World)
  (hp:∀W j,Kept w W->j<n->Calls Tryz.prog g (#[.agg (L.getD j []).toArray]++lb) W fun e w'=>e=.returned (.bool (p j))/\Kept w w') (h:RowsR 8 w (.slice ao n c) L) (hl:∀x∈L,x.length=8) (hbig:n<=9223372036854775807) :
  Calls Tryz.prog 101 #[.slice ao n c,.func (.func g) #[] lb] w fun e w'=>Kept w w'/\e=.returned (.bool (anyB p n)):=by
 have hc:=idx_cards g lb p eg ao n c L w hp h hl hbig
 clear hp h
 go_enter Tryz.func101,Tryz.ntmps101
 go_wp2_with fail
 refine hc.mono ?_
 rintro e w' ⟨hk,i,hi,h1,h2,rfl⟩
 have hA:=any_of_idx hi h1 h2
 generalize (if i=n then (-1:Int) else (i:Int))=z at hA ⊢
 have HA:=hid' (show _=anyB p n from hA)
 clear hA h1 h2 hi
 go_wp2
 all_goals
  go_ret
  refine⟨hk,congrArg (fun b=>Ending.returned (Value.bool b)) ?_⟩
  rw[<-HA.out]
  try simp_all
theorem idx_strs (g:Nat)(lb:Array Value)(p:Nat->Bool)(eg:∀args w,(callFunc g args).run Tryz.prog w=.ok (.enter g args) w)(ao:Option Addr)(n c:Nat)(l:List (List UInt8))(w:World)
  (hp:∀W j,Kept w W->j<n->Calls Tryz.prog g (#[.string (X.bs (l.getD j []))]++lb) W fun e w'=>e=.returned (.bool (p j))/\Kept w w') (h:RS w (.slice ao n c) l) (hbig:n<=9223372036854775807) :
  Calls Tryz.prog 145 #[.slice ao n c,.func (.func g) #[] lb] w fun e w'=>Kept w w'/\IdxIs e n p:=by
 have HS:=hid' h
 clear h
 go_enter Tryz.func145,Tryz.ntmps145
 go_wp2
 go_loopg [5,8] n (fun gg _ s8 wr=>∃kk:Nat,kk<=n/\n-kk<=gg/\s8=.int .i64 kk/\Aside (Kept w wr)/\Aside (∀j,j<kk->p j=false))
 case atStart=>exact⟨0,Nat.zero_le _,by omega,rfl,Kept.refl w,fun j hj=>absurd hj (Nat.not_lt_zero _)⟩
 case round=>
  obtain⟨kk,hkk,hg,rfl,BW,A⟩:=hrel
  by_cases hlt:kk<n
  ·have hltz:(kk:Int)<(n:Int):=by omega
   obtain⟨ao',cap',hv,hx⟩:=HS.out.kept BW.out
   simp only[Value.slice.injEq]at hv
   obtain⟨rfl,hn,rfl⟩:=hv
   obtain⟨b,off,rfl,hb,hc⟩:=hx (by omega)
   have hcall:=hp wr kk BW.out hlt
   have c0:=hc kk (by omega)
   generalize X.bs (l.getD kk [])=x0 at c0 hcall
   have HN:=hid' hn
   clear hx hc hp hn
   cases hq:p kk with
   |true=>
    rw[hq]at hcall
    have HQ:=hid' hq
    clear hq
    go_wp2_with fail
    refine hcall.mono ?_
    rintro e w' ⟨rfl,hb'⟩
    go_wp2
    go_ret
    exact⟨hb',idx_hit hlt A.out HQ.out⟩
   |false=>
    rw[hq]at hcall
    have HQ:=hid' hq
    clear hq
    go_wp2_with fail
    refine hcall.mono ?_
    rintro e w' ⟨rfl,hb'⟩
    go_wp2
    go_roundg (n-(kk+1))
    case measure=>omega
    case rel=>
     refine⟨kk+1,by omega,by omega,by go_num,hb',(show Aside _ from fun j hj=>?_)⟩
     by_cases e:j=kk
     ·subst e;exact HQ.out
     ·exact A.out j (by omega)
  ·have hltz:¬(kk:Int)<(n:Int):=by omega
   have:kk=n:=by omega
   subst this
   go_wp2
   go_ret
   exact⟨BW.out,idx_miss A.out⟩
theorem con_strs (g:Nat)(lb:Array Value)(p:Nat->Bool)(eg:∀args w,(callFunc g args).run Tryz.prog w=.ok (.enter g args) w)(ao:Option Addr)(n c:Nat)(l:List (List UInt8))(w:World)
  (hp:∀W j,Kept w W->j<n->Calls Tryz.prog g (#[.string (X.bs (l.getD j []))]++lb) W fun e w'=>e=.returned (.bool (p j))/\Kept w w') (h:RS w (.slice ao n c) l) (hbig:n<=9223372036854775807) :
  Calls Tryz.prog 117 #[.slice ao n c,.func (.func g) #[] lb] w fun e w'=>Kept w w'/\e=.returned (.bool (anyB p n)):=by
 have hc:=idx_strs g lb p eg ao n c l w hp h hbig
 clear hp h
 go_enter Tryz.func117,Tryz.ntmps117
 go_wp2_with fail
 refine hc.mono ?_
 rintro e w' ⟨hk,i,hi,h1,h2,rfl⟩
 have hA:=any_of_idx hi h1 h2
 generalize (if i=n then (-1:Int) else (i:Int))=z at hA ⊢
 have HA:=hid' (show _=anyB p n from hA)
 clear hA h1 h2 hi
 go_wp2
 all_goals
  go_ret
  refine⟨hk,congrArg (fun b=>Ending.returned (Value.bool b)) ?_⟩
  rw[<-HA.out]
  try simp_all
end V
end Go.Proofs.YtdjhmgmjiglcbaaGreatDoor
