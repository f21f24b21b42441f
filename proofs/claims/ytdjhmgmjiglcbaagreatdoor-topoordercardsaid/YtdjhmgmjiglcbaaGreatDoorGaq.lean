/- Lemmas. -/
import Derived.Test.YtdjhmgmjiglcbaaGreatDoorGap
import Derived.Laws.IdiomStrings
import Derived.Test.YtdjhmgmjiglcbaaGreatDoorGab
import Derived.Laws.BytesArg
set_option maxRecDepth 100000
set_option maxHeartbeats 4000000
namespace Go.Proofs.YtdjhmgmjiglcbaaGreatDoor
open Go.RowKit
namespace V
open Q (hid' Row3 Row2 okN)
def BSl (w:World)(v:Value)(l:List UInt8):Prop :=
 ∃(ao:Option Addr) (cap:Nat),v=.slice ao l.length cap /\
  (0<l.length->∃b off:Nat,ao=some ⟨b,off,none⟩/\b<w.heap.size/\∀j,j<l.length->w.cell? ⟨b,off+j,none⟩=some (.int .u8 ((l.getD j 0).toNat:Int)))
theorem BSl.kept {w w':World}{v:Value}{l:List UInt8}(h:BSl w v l)(k:Kept w w'):BSl w' v l:=by
 obtain⟨ao,cap,rfl,hx⟩:=h
 refine⟨ao,cap,rfl,fun h0=>?_⟩
 obtain⟨b,off,rfl,hlt,hc⟩:=hx h0
 refine⟨b,off,rfl,Nat.lt_of_lt_of_le hlt k.size,fun j hj=>?_⟩
 rw[Below.cell k (p:=⟨b,off+j,none⟩) hlt]
 exact hc j hj
theorem BSl.len {w:World}{ao:Option Addr}{n c:Nat}{l:List UInt8}(h:BSl w (.slice ao n c) l):n=l.length:=by
 obtain⟨_,_,e,_⟩:=h
 simp at e;exact e.2.1
theorem idx_bytes (g:Nat)(lb:Array Value)(p:UInt8->Bool)(eg:∀args w,(callFunc g args).run Tryz.prog w=.ok (.enter g args) w)(ao:Option Addr)(n c:Nat)(l:List UInt8)(w:World)
  (hp:∀W (x:UInt8),Kept w W->Calls Tryz.prog g (#[.int .u8 (x.toNat:Int)]++lb) W fun e w'=>e=.returned (.bool (p x))/\Kept w w') (h:BSl w (.slice ao n c) l) (hbig:n<=9223372036854775807) :
  Calls Tryz.prog 173 #[.slice ao n c,.func (.func g) #[] lb] w fun e w'=>Kept w w'/\IdxIs e n (fun j=>p (l.getD j 0)):=by
 have HS:=hid' h
 clear h
 go_enter Tryz.func173,Tryz.ntmps173
 go_wp2
 go_loopg [5,8] n (fun gg _ s8 wr=>∃kk:Nat,kk<=n/\n-kk<=gg/\s8=.int .i64 kk/\Aside (Kept w wr)/\Aside (∀j,j<kk->p (l.getD j 0)=false))
 case atStart=>exact⟨0,Nat.zero_le _,by omega,rfl,Kept.refl w,fun j hj=>absurd hj (Nat.not_lt_zero _)⟩
 case round=>
  obtain⟨kk,hkk,hg,rfl,BW,A⟩:=hrel
  by_cases hlt:kk<n
  ·have hltz:(kk:Int)<(n:Int):=by omega
   obtain⟨ao',cap',hv,hx⟩:=HS.out.kept BW.out
   simp only[Value.slice.injEq]at hv
   obtain⟨rfl,hn,rfl⟩:=hv
   obtain⟨b,off,rfl,hb,hc⟩:=hx (by omega)
   have c0:=hc kk (by omega)
   have hcall:=hp wr (l.getD kk 0) BW.out
   have HN:=hid' hn
   clear hx hc hp hn
   generalize hy:l.getD kk 0=y at c0 hcall
   have B:Aside (l.getD kk 0=y):=hy
   clear hy
   cases hq:p y with
   |true=>
    rw[hq]at hcall
    go_wp2_with fail
    refine hcall.mono ?_
    rintro e w' ⟨rfl,hb'⟩
    go_wp2
    go_ret
    exact⟨hb',idx_hit hlt A.out (by show p (l.getD kk 0)=true;rw[B.out];exact hq)⟩
   |false=>
    rw[hq]at hcall
    go_wp2_with fail
    refine hcall.mono ?_
    rintro e w' ⟨rfl,hb'⟩
    go_wp2
    go_roundg (n-(kk+1))
    case measure=>omega
    case rel=>
     refine⟨kk+1,by omega,by omega,by go_num,hb',(show Aside _ from fun j hj=>?_)⟩
     by_cases e:j=kk
     ·subst e
      rw[B.out];exact hq
     ·exact A.out j (by omega)
  ·have hltz:¬(kk:Int)<(n:Int):=by omega
   have:kk=n:=by omega
   subst this
   go_wp2
   go_ret
   exact⟨BW.out,idx_miss A.out⟩
theorem con_bytes (g:Nat)(lb:Array Value)(p:UInt8->Bool)(eg:∀args w,(callFunc g args).run Tryz.prog w=.ok (.enter g args) w)(ao:Option Addr)(n c:Nat)(l:List UInt8)(w:World)
  (hp:∀W (x:UInt8),Kept w W->Calls Tryz.prog g (#[.int .u8 (x.toNat:Int)]++lb) W fun e w'=>e=.returned (.bool (p x))/\Kept w w') (h:BSl w (.slice ao n c) l) (hbig:n<=9223372036854775807) :
  Calls Tryz.prog 146 #[.slice ao n c,.func (.func g) #[] lb] w fun e w'=>Kept w w'/\e=.returned (.bool (l.any p)):=by
 have hc:=idx_bytes g lb p eg ao n c l w hp h hbig
 have HL:=hid' h.len
 clear hp h
 go_enter Tryz.func146,Tryz.ntmps146
 go_wp2_with fail
 refine hc.mono ?_
 rintro e w' ⟨hk,i,hi,h1,h2,rfl⟩
 have hA:=any_of_idx hi h1 h2
 rw[HL.out]at hA
 rw[any_range l 0 p]at hA
 rw[<-HL.out]at hA
 generalize (if i=n then (-1:Int) else (i:Int))=z at hA ⊢
 have HA:=hid' hA
 clear hA h1 h2 hi
 go_wp2
 all_goals
  go_ret
  refine⟨hk,congrArg (fun b=>Ending.returned (Value.bool b)) ?_⟩
  rw[<-HA.out]
  try simp_all
def nbI (z:Int):Bool:=decide (97<=z/\z<=122∨48<=z/\z<=57∨z=95)
def nb (c:UInt8):Bool:=nbI (c.toNat:Int)
def okName (l:List UInt8):Bool:=decide (1<=l.length/\l.length<=16) && !(l.any fun c=>!nb c)
theorem isNameByte_any (z:Int)(w:World):Calls Tryz.prog 177 #[.int .u8 z] w fun e w'=>w'=w/\e=.returned (.bool (nbI z)):=by
 go_enter Tryz.func177,Tryz.ntmps177
 go_wp2
 all_goals
  go_ret
  refine⟨rfl,congrArg (fun b=>Ending.returned (Value.bool b)) ?_⟩
  unfold nbI
  rw[Bool.eq_iff_iff]
  simp_all
  try omega
theorem name1 (c:UInt8)(w:World):Calls Tryz.prog 176 #[.int .u8 (c.toNat:Int)] w fun e w'=>e=.returned (.bool (!nb c))/\Kept w w':=by
 go_enter Tryz.func176,Tryz.ntmps176
 go_wp2_with fail
 refine(isNameByte_any _ _).mono ?_
 rintro e w' ⟨rfl,rfl⟩
 go_wp2_with fail
 go_ret
 exact⟨rfl,Kept.refl _⟩
theorem isName_any (s:ByteArray)(w:World)(hs:s.size<=9223372036854775807):Calls Tryz.prog 152 #[.string s] w fun e w'=>Kept w w'/\e=.returned (.bool (okName s.data.toList)):=by
 have hl:s.data.toList.length=s.size:=by rw[Array.length_toList];rfl
 have HO:=hid' (show okName s.data.toList=(decide (1<=s.size/\s.size<=16) && !(s.data.toList.any fun c=>!nb c)) by unfold okName;rw[hl])
 generalize okName s.data.toList=ok at HO ⊢
 by_cases h1:s.size<1
 ·have h1':(s.size:Int)<1:=by omega
  go_enter Tryz.func152,Tryz.ntmps152
  go_wp2_with fail
  go_ret
  exact⟨Kept.refl _,by rw[HO.out,decide_eq_false (by omega)];rfl⟩
 ·have h1':¬(s.size:Int)<1:=by omega
  by_cases h2:16<s.size
  ·have h2':(16:Int)<(s.size:Int):=by omega
   go_enter Tryz.func152,Tryz.ntmps152
   go_wp2_with fail
   go_ret
   exact⟨Kept.refl _,by rw[HO.out,decide_eq_false (by omega)];rfl⟩
  ·have h2':¬(16:Int)<(s.size:Int):=by omega
   have hcv:=run_bytes_of_string (P:=Tryz.prog) w 9 107 5 s Tryz.underlying9 Tryz.underlying107 Tryz.underlying5
   have hB:BSl (w.alloc (.cells (bytesRow s (grownCap w s.size 0 5)) 5 ((bytesRow s (grownCap w s.size 0 5)).size,(bytesRow s (grownCap w s.size 0 5)).size+1))).drew (.slice (some ⟨w.heap.size,0,none⟩) s.size (grownCap w s.size 0 5)) s.data.toList:=by
    refine⟨_,_,by rw[hl],fun _=>⟨w.heap.size,0,rfl,by show w.heap.size<(w.alloc _).heap.size;simp,fun j hj=>?_⟩⟩
    have hj':j<s.data.size:=by rw[Array.length_toList]at hj;exact hj
    rw[Nat.zero_add]
    show (w.alloc _).cell? _=_
    rw[World.cell?_alloc_mark,bytesRow_at s _ j hj',List.getD_eq_getElem?_getD,List.getElem?_eq_getElem hj];rfl
   have hK:=(Kept.refl w).alloc (.cells (bytesRow s (grownCap w s.size 0 5)) 5 ((bytesRow s (grownCap w s.size 0 5)).size,(bytesRow s (grownCap w s.size 0 5)).size+1)) |>.drew
   have HB:=hid' (And.intro hB hK)
   clear hB hK
   go_enter Tryz.func152,Tryz.ntmps152
   go_wp2_with fail
   clear hcv
   generalize (w.alloc (.cells (bytesRow s (grownCap w s.size 0 5)) 5 ((bytesRow s (grownCap w s.size 0 5)).size,(bytesRow s (grownCap w s.size 0 5)).size+1))).drew=W at HB ⊢
   refine(con_bytes 176 #[] (fun c=>!nb c) (fun _ _=>by simp) _ _ _ _ W (fun V x hV=>(name1 x V).mono fun e w' h=>⟨h.1,hV.trans h.2⟩) HB.out.1 (by omega)).mono ?_
   rintro e w' ⟨hk,rfl⟩
   have HN:=hid' (HB.out.2.trans hk)
   clear hk
   obtain⟨b,hb⟩:∃b,b=s.data.toList.any (fun c=>!nb c):=⟨_,rfl⟩
   rw[<-hb]
   have HO2:=hid' (show ok=!b by rw[HO.out,decide_eq_true (by omega),hb];rfl)
   clear hb HO
   go_wp2_with fail
   go_ret
   exact⟨HN.out,by rw[HO2.out];rfl⟩
open Q (hid')
theorem bl_at' (s:ByteArray)(k:Nat)(h:k<s.size):s.data.toList[k]?=some s[k]:=by
 rw[List.getElem?_eq_getElem (by rw[Array.length_toList];exact h)]
 rfl
theorem any_take' (s:ByteArray)(k:Nat)(h:k<s.size):(s.data.toList.take (k+1)).any (fun c=>!nb c)=((s.data.toList.take k).any (fun c=>!nb c) || !nb s[k]):=by
 rw[List.take_add_one,bl_at' s k h,List.any_append]
 simp
theorem cnb_any (z:Int)(w:World):Calls Tryz.prog 132 #[.int .u8 z] w fun e w'=>w'=w/\e=.returned (.bool (nbI z)):=by
 go_enter Tryz.func132,Tryz.ntmps132
 go_wp2
 all_goals
  go_ret
  refine⟨rfl,congrArg (fun b=>Ending.returned (Value.bool b)) ?_⟩
  unfold nbI
  rw[Bool.eq_iff_iff]
  simp_all
  try omega
theorem cname_any (s:ByteArray)(w:World)(hs:s.size<=9223372036854775807):Calls Tryz.prog 96 #[.string s] w fun e w'=>w'=w/\e=.returned (.bool (okName s.data.toList)):=by
 have hl:s.data.toList.length=s.size:=by rw[Array.length_toList];rfl
 have HO:=hid' (show okName s.data.toList=(decide (1<=s.size/\s.size<=16) && !(s.data.toList.any fun c=>!nb c)) by unfold okName;rw[hl])
 obtain⟨ok,hok⟩:∃ok,ok=okName s.data.toList:=⟨_,rfl⟩
 rw[<-hok]at HO ⊢
 clear hok
 have HLn:=hid' hl
 clear hl
 by_cases h1:s.size<1
 ·have h1':(s.size:Int)<1:=by omega
  go_enter Tryz.func96,Tryz.ntmps96
  go_wp2_with fail
  go_ret
  exact⟨rfl,by rw[HO.out,decide_eq_false (by omega)];rfl⟩
 have h1':¬(s.size:Int)<1:=by omega
 by_cases h2:16<s.size
 ·have h2':(16:Int)<(s.size:Int):=by omega
  go_enter Tryz.func96,Tryz.ntmps96
  go_wp2_with fail
  go_ret
  exact⟨rfl,by rw[HO.out,decide_eq_false (by omega)];rfl⟩
 have h2':¬(16:Int)<(s.size:Int):=by omega
 go_enter Tryz.func96,Tryz.ntmps96
 go_wp2_with fail
 go_loopw [14] (fun vi wr=>∃j:Nat,j<=s.size/\vi=.int .i64 (j:Int)/\Hid ((s.data.toList.take j).any (fun c=>!nb c)=false)/\wr=w) (fun vi _=>s.size-(intOf vi).toNat)
 case atStart=>exact⟨0,Nat.zero_le _,rfl,hid' (by simp),rfl⟩
 case round=>
  obtain⟨j,hj,rfl,H,rfl⟩:=hrel
  by_cases hlt:j<s.size
  ·have hij:(j:Int)<(s.size:Int):=by omega
   have HT:=hid' (any_take' s j hlt)
   go_wp2_with fail
   refine(cnb_any _ _).mono ?_
   rintro e w' ⟨rfl,rfl⟩
   obtain⟨b,hb⟩:∃b,b=nbI (s[j].toNat:Int):=⟨_,rfl⟩
   rw[<-hb]
   have HB:=hid' hb
   clear hb
   cases b
   ·have HE:=hid' (show ok=false by
     rw[HO.out,show (s.data.toList.any fun c=>!nb c)=true from ?_]
     ·simp
     ·rw[List.any_eq_true]
      exact⟨s[j],List.mem_of_getElem? (bl_at' s j hlt),by unfold nb;rw[<-HB.out];rfl⟩)
    go_wp2_with fail
    go_ret
    exact⟨rfl,by rw[HE.out];rfl⟩
   ·have HN:=hid' (show (s.data.toList.take (j+1)).any (fun c=>!nb c)=false by rw[HT.out,H.out];unfold nb;rw[<-HB.out];rfl)
    go_wp2_with fail
    go_roundw
    case rel=>exact⟨j+1,by omega,by go_num,HN.out,trivial⟩
    case measure=>show s.size-((j:Int)+1).toNat<s.size-(j:Int).toNat;omega
  ·have hij:¬(j:Int)<(s.size:Int):=by omega
   have HA:=hid' (show (s.data.toList.any fun c=>!nb c)=false by
    rw[<-H.out,List.take_of_length_le (by rw[HLn.out];omega)])
   have HE:=hid' (show ok=true by rw[HO.out,HA.out,decide_eq_true (by omega)];rfl)
   go_wp2_with fail
   go_ret
   exact⟨rfl,by rw[HE.out];rfl⟩
open Q (hid')
def digs (l:List UInt8):Bool:=!(l.any fun c=>!(decide (48<=(c.toNat:Int)/\(c.toNat:Int)<=57)))
def stepT (l:List UInt8):Int×Bool:=if 1<=l.length/\l.length<=10/\¬(l.getD 0 0=48/\1<l.length)/\digs l=true then ((dv l:Int),decide ((dv l:Int)<=1000000000)) else (0,false)
theorem digs_dig {l:List UInt8}(h:digs l=true):Dig l:=by
 unfold digs at h
 intro c hc
 have:l.any (fun c=>!(decide (48<=(c.toNat:Int)/\(c.toNat:Int)<=57)))=false:=by simpa using h
 rw[List.any_eq_false]at this
 have:=this c hc
 simp at this
 omega
theorem dig_lt:∀l:List UInt8,Dig l->dv l<10^l.length:=by
 refine snocInd ?_ ?_
 ·intro _;decide
 ·intro l c ih h
  have h1:=ih (fun x hx=>h x (List.mem_append_left _ hx))
  have h2:=h c (by simp)
  rw[dv_snoc,List.length_append,List.length_singleton,Nat.pow_succ]
  omega
theorem digs_take {s:ByteArray}{j:Nat}(h:j<s.size):digs (s.data.toList.take (j+1))=(digs (s.data.toList.take j)&&decide (48<=(s[j].toNat:Int)/\(s[j].toNat:Int)<=57)):=by
 unfold digs
 rw[List.take_add_one,bl_at' s j h,List.any_append]
 simp
theorem dv_take {s:ByteArray}{j:Nat}(h:j<s.size):dv (s.data.toList.take (j+1))=dv (s.data.toList.take j)*10+(s[j].toNat-48):=by
 rw[List.take_add_one,bl_at' s j h]
 exact dv_snoc _ _
theorem step_any (s:ByteArray)(w:World)(hs:s.size<=9223372036854775807):Calls Tryz.prog 214 #[.string s] w fun e w'=>w'=w/\e=.returned (.tuple #[.int .i64 (stepT s.data.toList).1,.bool (stepT s.data.toList).2]):=by
 have hl:s.data.toList.length=s.size:=by rw[Array.length_toList];rfl
 have HLn:=hid' hl
 have HO:=hid' (show stepT s.data.toList=if 1<=s.size/\s.size<=10/\¬(s.data.toList.getD 0 0=48/\1<s.size)/\digs s.data.toList=true then ((dv s.data.toList:Int),decide ((dv s.data.toList:Int)<=1000000000)) else (0,false) by unfold stepT;rw[hl])
 clear hl
 generalize stepT s.data.toList=r at HO ⊢
 obtain⟨r1,r2⟩:=r
 dsimp only
 by_cases h1:s.size<1
 ·have h1':(s.size:Int)<1:=by omega
  have HE:=hid' (show r1=0/\r2=false by have:=HO.out;rw[if_neg (by omega)]at this;simpa using this)
  go_enter Tryz.func214,Tryz.ntmps214
  go_wp2_with fail
  go_ret2
  exact⟨rfl,by rw[HE.out.1,HE.out.2];rfl⟩
 have h1':¬(s.size:Int)<1:=by omega
 by_cases h2:10<s.size
 ·have h2':(10:Int)<(s.size:Int):=by omega
  have HE:=hid' (show r1=0/\r2=false by have:=HO.out;rw[if_neg (by omega)]at this;simpa using this)
  go_enter Tryz.func214,Tryz.ntmps214
  go_wp2_with fail
  go_ret2
  exact⟨rfl,by rw[HE.out.1,HE.out.2];rfl⟩
 have h2':¬(10:Int)<(s.size:Int):=by omega
 have h0:0<s.size:=by omega
 have hg:s.data.toList.getD 0 0=s[0]:=by rw[List.getD_eq_getElem?_getD,bl_at' s 0 h0];rfl
 have HF:=hid' (fun (h:∃j,j<s.size/\digs (s.data.toList.take (j+1))=false)=>(show r1=0/\r2=false by
  have:=HO.out
  rw[if_neg (fun hh=>by
   obtain⟨j,_,hj⟩:=h
   have h3:=hh.2.2.2
   unfold digs at h3 hj
   have h4:(s.data.toList.take (j+1)).any (fun c=>!(decide (48<=(c.toNat:Int)/\(c.toNat:Int)<=57)))=true:=by simpa using hj
   rw[List.any_eq_true]at h4
   obtain⟨c,hc,hd⟩:=h4
   have h5:s.data.toList.any (fun c=>!(decide (48<=(c.toNat:Int)/\(c.toNat:Int)<=57)))=true:=List.any_eq_true.2 ⟨c,List.mem_of_mem_take hc,hd⟩
   rw[h5]at h3
   cases h3)]at this
  simpa using this))
 by_cases c1:(s[0].toNat:Int)=48
 ·have c1b:((s[0].toNat:Int) == 48)=true:=by simpa using c1
  have hu:s[0]=48:=UInt8.toNat_inj.1 (by have:(48:UInt8).toNat=48:=rfl;omega)
  by_cases c2:1<s.size
  ·have c2':(1:Int)<(s.size:Int):=by omega
   have HE:=hid' (show r1=0/\r2=false by have:=HO.out;rw[if_neg (fun h=>h.2.2.1 ⟨by rw[hg,hu],c2⟩)]at this;simpa using this)
   clear hu c1
   go_enter Tryz.func214,Tryz.ntmps214
   go_wp2_with fail
   go_ret2
   exact⟨rfl,by rw[HE.out.1,HE.out.2];rfl⟩
  ·have c2':¬(1:Int)<(s.size:Int):=by omega
   have HG:=hid' (fun (h:digs s.data.toList=true)=>(show r1=(dv s.data.toList:Int)/\r2=decide ((dv s.data.toList:Int)<=1000000000) by have:=HO.out;rw[if_pos ⟨by omega,by omega,fun h=>c2 h.2,h⟩]at this;simpa using this))
   clear hu hg c1
   go_enter Tryz.func214,Tryz.ntmps214
   go_wp2_with fail
   go_loopw [4,26] (fun vn vi wr=>∃j v:Nat,j<=s.size/\v<10000000000/\vi=.int .i64 (j:Int)/\vn=.int .i64 (v:Int)/\Hid (v=dv (s.data.toList.take j)/\digs (s.data.toList.take j)=true)/\wr=w) (fun _ vi _=>s.size-(intOf vi).toNat)
   case atStart=>exact⟨0,0,Nat.zero_le _,by decide,rfl,rfl,⟨rfl,rfl⟩,rfl⟩
   case round=>
    obtain⟨j,v,hj,hv,rfl,rfl,H,rfl⟩:=hrel
    by_cases hlt:j<s.size
    ·have hij:(j:Int)<(s.size:Int):=by omega
     have HT:=hid' (And.intro (digs_take hlt) (dv_take hlt))
     have hb:s[j].toNat<256:=s[j].toNat_lt
     by_cases e1:(s[j].toNat:Int)<48
     ·have HE:=hid' (HF.out ⟨j,hlt,by rw[HT.out.1,decide_eq_false (by omega),Bool.and_false]⟩)
      go_wp2_with fail
      go_ret2
      exact⟨rfl,by rw[HE.out.1,HE.out.2];rfl⟩
     ·by_cases e2:(57:Int)<(s[j].toNat:Int)
      ·have HE:=hid' (HF.out ⟨j,hlt,by rw[HT.out.1,decide_eq_false (by omega),Bool.and_false]⟩)
       go_wp2_with fail
       go_ret2
       exact⟨rfl,by rw[HE.out.1,HE.out.2];rfl⟩
      ·have HN:=hid' (show v*10+(s[j].toNat-48)=dv (s.data.toList.take (j+1))/\digs (s.data.toList.take (j+1))=true by
        rw[HT.out.1,HT.out.2,H.out.2,<-H.out.1,decide_eq_true (by omega)];exact⟨rfl,rfl⟩)
       have HB:=hid' (show v*10+(s[j].toNat-48)<10000000000 by
        rw[HN.out.1]
        exact Nat.lt_of_lt_of_le (dig_lt _ (digs_dig HN.out.2)) (Nat.le_trans (Nat.pow_le_pow_right (by decide) (show _<=10 by rw[List.length_take];have:=HLn.out;omega)) (by decide)))
       have m1:IntKind.u8.wrap ((s[j].toNat:Int)-48)=(s[j].toNat:Int)-48:=by simp[IntKind.wrap,IntKind.signed,IntKind.bits];omega
       go_wp2_with fail
       go_roundw
       case rel=>exact⟨j+1,v*10+(s[j].toNat-48),by omega,HB.out,by go_num,by congr 1;omega,HN.out,trivial⟩
       case measure=>show s.size-((j:Int)+1).toNat<s.size-(j:Int).toNat;omega
    ·have hij:¬(j:Int)<(s.size:Int):=by omega
     have HE:=hid' (HG.out (by rw[<-H.out.2,List.take_of_length_le (by rw[HLn.out];omega)]))
     have HD:=hid' (show (v:Int)=(dv s.data.toList:Int) by rw[H.out.1,List.take_of_length_le (by rw[HLn.out];omega)])
     go_wp2_with fail
     go_ret2
     exact⟨rfl,by rw[HE.out.1,HE.out.2,<-HD.out];rfl⟩
 ·have c1b:((s[0].toNat:Int) == 48)=false:=by simpa using c1
  have HG:=hid' (fun (h:digs s.data.toList=true)=>(show r1=(dv s.data.toList:Int)/\r2=decide ((dv s.data.toList:Int)<=1000000000) by have:=HO.out;rw[if_pos ⟨by omega,by omega,fun h=>c1 (by rw[<-hg,h.1];rfl),h⟩]at this;simpa using this))
  clear hg c1
  go_enter Tryz.func214,Tryz.ntmps214
  go_wp2_with fail
  go_loopw [4,26] (fun vn vi wr=>∃j v:Nat,j<=s.size/\v<10000000000/\vi=.int .i64 (j:Int)/\vn=.int .i64 (v:Int)/\Hid (v=dv (s.data.toList.take j)/\digs (s.data.toList.take j)=true)/\wr=w) (fun _ vi _=>s.size-(intOf vi).toNat)
  case atStart=>exact⟨0,0,Nat.zero_le _,by decide,rfl,rfl,⟨rfl,rfl⟩,rfl⟩
  case round=>
   obtain⟨j,v,hj,hv,rfl,rfl,H,rfl⟩:=hrel
   by_cases hlt:j<s.size
   ·have hij:(j:Int)<(s.size:Int):=by omega
    have HT:=hid' (And.intro (digs_take hlt) (dv_take hlt))
    have hb:s[j].toNat<256:=s[j].toNat_lt
    by_cases e1:(s[j].toNat:Int)<48
    ·have HE:=hid' (HF.out ⟨j,hlt,by rw[HT.out.1,decide_eq_false (by omega),Bool.and_false]⟩)
     go_wp2_with fail
     go_ret2
     exact⟨rfl,by rw[HE.out.1,HE.out.2];rfl⟩
    ·by_cases e2:(57:Int)<(s[j].toNat:Int)
     ·have HE:=hid' (HF.out ⟨j,hlt,by rw[HT.out.1,decide_eq_false (by omega),Bool.and_false]⟩)
      go_wp2_with fail
      go_ret2
      exact⟨rfl,by rw[HE.out.1,HE.out.2];rfl⟩
     ·have HN:=hid' (show v*10+(s[j].toNat-48)=dv (s.data.toList.take (j+1))/\digs (s.data.toList.take (j+1))=true by
       rw[HT.out.1,HT.out.2,H.out.2,<-H.out.1,decide_eq_true (by omega)];exact⟨rfl,rfl⟩)
      have HB:=hid' (show v*10+(s[j].toNat-48)<10000000000 by
       rw[HN.out.1]
       exact Nat.lt_of_lt_of_le (dig_lt _ (digs_dig HN.out.2)) (Nat.le_trans (Nat.pow_le_pow_right (by decide) (show _<=10 by rw[List.length_take];have:=HLn.out;omega)) (by decide)))
      have m1:IntKind.u8.wrap ((s[j].toNat:Int)-48)=(s[j].toNat:Int)-48:=by simp[IntKind.wrap,IntKind.signed,IntKind.bits];omega
      go_wp2_with fail
      go_roundw
      case rel=>exact⟨j+1,v*10+(s[j].toNat-48),by omega,HB.out,by go_num,by congr 1;omega,HN.out,trivial⟩
      case measure=>show s.size-((j:Int)+1).toNat<s.size-(j:Int).toNat;omega
   ·have hij:¬(j:Int)<(s.size:Int):=by omega
    have HE:=hid' (HG.out (by rw[<-H.out.2,List.take_of_length_le (by rw[HLn.out];omega)]))
    have HD:=hid' (show (v:Int)=(dv s.data.toList:Int) by rw[H.out.1,List.take_of_length_le (by rw[HLn.out];omega)])
    go_wp2_with fail
    go_ret2
    exact⟨rfl,by rw[HE.out.1,HE.out.2,<-HD.out];rfl⟩
open Q (hid')
def wkindL (l:List UInt8):Int:=if l=[112,117,108,115,101] then 2 else if l=[112,119,108] then 3 else if l=[116,97,98,108,101] then 4 else 1
theorem waveKind_any (s:ByteArray)(w:World):Calls Tryz.prog 192 #[.string s] w fun e w'=>w'=w/\e=.returned (.int .i64 (wkindL s.toList)):=by
 obtain⟨r,hr⟩:∃r,r=wkindL s.toList:=⟨_,rfl⟩
 rw[<-hr]
 unfold wkindL at hr
 by_cases h1:s.toList=[112,117,108,115,101]
 ·rw[if_pos h1]at hr
  have b1:(s.toList == [112,117,108,115,101])=true:=by rw[h1];rfl
  have HE:=hid' hr
  clear hr h1
  go_enter Tryz.func192,Tryz.ntmps192
  go_wp2_with fail
  go_ret
  exact⟨rfl,by rw[HE.out];rfl⟩
 rw[if_neg h1]at hr
 have b1:(s.toList == [112,117,108,115,101])=false:=by simpa using h1
 by_cases h2:s.toList=[112,119,108]
 ·rw[if_pos h2]at hr
  have b2:(s.toList == [112,119,108])=true:=by rw[h2];rfl
  have HE:=hid' hr
  clear hr h1 h2
  go_enter Tryz.func192,Tryz.ntmps192
  go_wp2_with fail
  go_ret
  exact⟨rfl,by rw[HE.out];rfl⟩
 rw[if_neg h2]at hr
 have b2:(s.toList == [112,119,108])=false:=by simpa using h2
 by_cases h3:s.toList=[116,97,98,108,101]
 ·rw[if_pos h3]at hr
  have b3:(s.toList == [116,97,98,108,101])=true:=by rw[h3];rfl
  have HE:=hid' hr
  clear hr h1 h2 h3
  go_enter Tryz.func192,Tryz.ntmps192
  go_wp2_with fail
  go_ret
  exact⟨rfl,by rw[HE.out];rfl⟩
 rw[if_neg h3]at hr
 have b3:(s.toList == [116,97,98,108,101])=false:=by simpa using h3
 have HE:=hid' hr
 clear hr h1 h2 h3
 go_enter Tryz.func192,Tryz.ntmps192
 go_wp2_with fail
 go_ret
 exact⟨rfl,by rw[HE.out];rfl⟩
open Q (hid')
theorem str_bytes' (D:List UInt8):strOfNums (D.map fun b=>(b.toNat:Int))=⟨D.toArray⟩:=by
 unfold strOfNums
 rw[List.map_map]
 congr 2
 rw[show ((fun n:Int=>UInt8.ofNat n.toNat) ∘ fun b:UInt8=>(b.toNat:Int))=id from funext fun b=>by simp]
 simp
theorem anew_any (s:ByteArray)(w:World):Calls Tryz.prog 129 #[.string s] w fun e w'=>Kept w w'/\e=.returned (.string s):=by
 have hl:s.data.toList.length=s.size:=by rw[Array.length_toList];rfl
 have hcv:=run_bytes_of_string (P:=Tryz.prog) w 9 107 5 s Tryz.underlying9 Tryz.underlying107 Tryz.underlying5
 have hK:=(Kept.refl w).alloc (.cells (bytesRow s (grownCap w s.size 0 5)) 5 ((bytesRow s (grownCap w s.size 0 5)).size,(bytesRow s (grownCap w s.size 0 5)).size+1)) |>.drew
 have hcv2:=run_convert_bytes_arg (P:=Tryz.prog) (w.alloc (.cells (bytesRow s (grownCap w s.size 0 5)) 5 ((bytesRow s (grownCap w s.size 0 5)).size,(bytesRow s (grownCap w s.size 0 5)).size+1))).drew 107 5 Tryz.underlying107 Tryz.underlying5 w.heap.size 0 s.size (grownCap w s.size 0 5) (s.data.toList.map fun b=>(b.toNat:Int)) (by simp) (fun j hj=>by
  have hj':j<s.data.size:=hj
  rw[Nat.zero_add]
  show (w.alloc _).cell? _=_
  rw[World.cell?_alloc_mark,bytesRow_at s _ j hj',List.getD_eq_getElem?_getD,List.getElem?_map,List.getElem?_eq_getElem (by rw[Array.length_toList];exact hj')];rfl) 9 Tryz.underlying9
 rw[str_bytes']at hcv2
 have HK:=hid' hK
 clear hK hl
 go_enter Tryz.func129,Tryz.ntmps129
 go_wp2_with fail
 go_ret
 exact⟨HK.out,rfl⟩
end V
end Go.Proofs.YtdjhmgmjiglcbaaGreatDoor
