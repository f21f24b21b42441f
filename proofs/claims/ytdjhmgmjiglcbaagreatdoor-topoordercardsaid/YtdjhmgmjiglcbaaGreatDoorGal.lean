/- Lemmas. -/
import Derived.Test.YtdjhmgmjiglcbaaGreatDoorGab
import Derived.Test.YtdjhmgmjiglcbaaGreatDoorGac
set_option maxRecDepth 100000
set_option maxHeartbeats 4000000
namespace Go.Proofs.YtdjhmgmjiglcbaaGreatDoor
open Go.RowKit
namespace Q
theorem Valid_any (m x:Int)(w:World):Calls Tryz.prog 180 #[.agg #[.int .i64 m,.int .i64 x]] w fun e w'=>Kept w w'/\e=.returned (.bool (okN m x)):=by
 go_enter Tryz.func180,Tryz.ntmps180
 by_cases hm:m=0
 ·subst hm
  go_wp2
  all_goals
   go_ret
   exact⟨(Kept.refl w).alloc _,congrArg (fun b=>Ending.returned (Value.bool b)) (by by_cases h:x=0 <;> simp[okN,h])⟩
 ·have hb:(m == 0)=false:=by simpa using hm
  go_wp2
  all_goals
   go_ret
   refine⟨(Kept.refl w).alloc _,congrArg (fun b=>Ending.returned (Value.bool b)) ?_⟩
   simp_all [okN]
   try omega
theorem cut_here {L:List UInt8}{n:Nat}(h:Dig (L.take n))(h2:∀c,L[n]?=some c->isd c=false):dgs L=L.take n/\rst L=L.drop n:=by
 have:=cut_at (D:=L.take n) (T:=L.drop n) h (fun c hc=>h2 c (by rw[<-hc,List.head?_drop]))
 rwa [List.take_append_drop]at this
theorem dig_next {s:ByteArray}{n:Nat}(h:Dig (s.data.toList.take n))(hn:n<s.size)(h1:48<=s[n].toNat)(h2:s[n].toNat<=57):Dig (s.data.toList.take (n+1)):=by
 rw[List.take_succ_eq_append_getElem (by rw[Array.length_toList];exact hn)]
 refine h.append (fun c hc=>?_)
 rw[List.mem_singleton]at hc
 subst hc
 exact⟨h1,h2⟩
theorem ext_take (s:ByteArray)(n:Nat):(s.extract 0 n).data.toList=s.data.toList.take n:=by simp[ByteArray.data_extract]
theorem ext_drop (s:ByteArray)(n:Nat):(s.extract n s.size).data.toList=s.data.toList.drop n:=by
 simp[ByteArray.data_extract]
 exact List.take_of_length_le (by rw[List.length_drop,Array.length_toList];exact Nat.le_refl _)
theorem list_at (s:ByteArray)(k:Nat)(h:k<s.size):s.data.toList[k]?=some s[k]:=by
 rw[List.getElem?_eq_getElem (by rw[Array.length_toList];exact h)];rfl
theorem cut_any (s:ByteArray)(w:World)(hs:s.size<=1024):Calls Tryz.prog 257 #[.string s] w fun e w'=>Kept w w'/\∃a b:ByteArray,e=.returned (.tuple #[.string a,.string b])/\a.data.toList=dgs s.data.toList/\b.data.toList=rst s.data.toList:=by
 go_enter Tryz.func257,Tryz.ntmps257
 go_wp2_with fail
 go_loopw [4] (fun vi wr=>∃k:Nat,k<=s.size/\vi=.int .i64 (k:Int)/\Hid (Dig (s.data.toList.take k))/\wr=w) (fun vi _=>s.size-(intOf vi).toNat)
 case atStart=>exact⟨0,Nat.zero_le _,rfl,(fun c hc=>by simp at hc:Dig _),rfl⟩
 case round=>
  obtain⟨k,hk,rfl,HD,rfl⟩:=hrel
  by_cases hlt:k<s.size
  ·have hi:(k:Int)<(s.size:Int):=by omega
   by_cases h1:48<=s[k].toNat
   ·have h1':(48:Int)<=(s[k].toNat:Int):=by omega
    by_cases h2:s[k].toNat<=57
    ·have h2':(s[k].toNat:Int)<=57:=by omega
     go_wp2
     go_roundw
     case rel=>exact⟨k+1,by omega,by go_num,dig_next HD.out hlt h1 h2,trivial⟩
     case measure=>show s.size-((k:Int)+1).toNat<s.size-(k:Int).toNat;omega
    ·have h2':¬(s[k].toNat:Int)<=57:=by omega
     have H:Hid (dgs s.data.toList=s.data.toList.take k/\rst s.data.toList=s.data.toList.drop k):=cut_here HD.out (fun c hc=>by rw[list_at s k hlt]at hc;cases hc;unfold isd;exact decide_eq_false (by omega))
     clear h1 h2
     go_wp2_with fail
     go_region
     go_wp2
     go_ret2
     exact⟨(Kept.refl wr).drew,_,_,rfl,(ext_take s k).trans H.out.1.symm,(ext_drop s k).trans H.out.2.symm⟩
   ·have h1':¬(48:Int)<=(s[k].toNat:Int):=by omega
    have H:Hid (dgs s.data.toList=s.data.toList.take k/\rst s.data.toList=s.data.toList.drop k):=cut_here HD.out (fun c hc=>by rw[list_at s k hlt]at hc;cases hc;unfold isd;exact decide_eq_false (by omega))
    clear h1
    go_wp2_with fail
    go_region
    go_wp2
    go_ret2
    exact⟨(Kept.refl wr).drew,_,_,rfl,(ext_take s k).trans H.out.1.symm,(ext_drop s k).trans H.out.2.symm⟩
  ·have hi:¬(k:Int)<(s.size:Int):=by omega
   have H:Hid (dgs s.data.toList=s.data.toList.take k/\rst s.data.toList=s.data.toList.drop k):=cut_here HD.out (fun c hc=>by rw[List.getElem?_eq_none (by rw[Array.length_toList];show s.size<=k;omega)]at hc;cases hc)
   clear hlt
   go_wp2_with fail
   go_region
   go_wp2
   go_ret2
   exact⟨(Kept.refl wr).drew,_,_,rfl,(ext_take s k).trans H.out.1.symm,(ext_drop s k).trans H.out.2.symm⟩
end Q
end Go.Proofs.YtdjhmgmjiglcbaaGreatDoor
