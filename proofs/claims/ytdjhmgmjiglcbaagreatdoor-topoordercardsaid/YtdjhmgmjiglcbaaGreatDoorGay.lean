/- Lemmas. -/
import Derived.Test.YtdjhmgmjiglcbaaGreatDoorGau
import Derived.Test.YtdjhmgmjiglcbaaGreatDoorNa1
import Derived.Test.YtdjhmgmjiglcbaaGreatDoorGaa
import Derived.Laws.MakeOwn
import Derived.Test.YtdjhmgmjiglcbaaGreatDoorGaq
import Derived.Test.YtdjhmgmjiglcbaaGreatDoorGal
set_option maxRecDepth 100000
set_option maxHeartbeats 8000000
namespace Go.Proofs.YtdjhmgmjiglcbaaGreatDoor
open Go.RowKit
namespace V
open Q (hid')
open X (RS)
theorem ix46:Lib.indexByte [46] 46=0:=by decide
theorem slIx_any (s:ByteArray)(w:World):Calls Tryz.prog 201 #[.string s,.string ⟨#[46]⟩] w fun e w'=>w'=w/\e=.returned (.int .i64 (Lib.indexByte s.data.toList 46)):=by
 obtain⟨z,hz⟩:∃z,z=Lib.indexByte s.data.toList 46:=⟨_,rfl⟩
 rw[<-hz]
 have hI:=fun V=>slIndex_any s 46 V
 rw[show ((46:Int).toNat.toUInt8)=46 from rfl,<-hz]at hI
 cases h:([46] == s.toList)
 ·have h':(s.toList == [46])=false:=by rw[<-h];exact BEq.comm
  clear hz
  go_enter Tryz.func201,Tryz.ntmps201
  go_wp2_with fail
  refine(hI _).mono ?_
  rintro e w1 ⟨rfl,rfl⟩
  go_wp2_with fail
  go_ret
  exact⟨rfl,rfl⟩
 ·have h':(s.toList == [46])=true:=by rw[<-h];exact BEq.comm
  have HZ:=hid' (show z=0 by rw[hz];have:=eq_of_beq h;rw[ByteArray.toList_eq]at this;rw[<-this];exact ix46)
  clear hz
  go_enter Tryz.func201,Tryz.ntmps201
  go_wp2_with fail
  go_ret
  exact⟨rfl,by rw[HZ.out];rfl⟩
theorem sIx_any (s:ByteArray)(w:World):Calls Tryz.prog 172 #[.string s,.string ⟨#[46]⟩] w fun e w'=>w'=w/\e=.returned (.int .i64 (Lib.indexByte s.data.toList 46)):=by
 go_enter Tryz.func172,Tryz.ntmps172
 go_wp2_with fail
 refine(slIx_any s _).mono ?_
 rintro e w1 ⟨rfl,rfl⟩
 go_wp2_with fail
 go_ret
 exact⟨rfl,rfl⟩
def splitD:Nat->List UInt8->List (List UInt8)
 |0,l=>[l]
 |k+1,l=>if Lib.indexByte l 46<0 then [l] else l.take (Lib.indexByte l 46).toNat::splitD k (l.drop ((Lib.indexByte l 46).toNat+1))
theorem splitD_len:∀k l,1<=(splitD k l).length/\(splitD k l).length<=k+1
 |0,l=>by simp[splitD]
 |k+1,l=>by
  rw[splitD]
  split
  ·simp
  ·have:=splitD_len k (l.drop ((Lib.indexByte l 46).toNat+1))
   rw[List.length_cons]
   omega
theorem ix_lt:∀(l:List UInt8) (c:UInt8),Lib.indexByte l c<l.length
 | [],c=>by simp[Lib.indexByte]
 |b::l,c=>by
  have ih:=ix_lt l c
  unfold Lib.indexByte
  rw[List.length_cons]
  split
  ·omega
  ·split <;> omega
theorem splitD_more:∀(k j:Nat) (l:List UInt8),l.length<=k->l.length<=j->splitD k l=splitD j l
 |0,j,l,hk,_=>by
  obtain rfl:l=[]:=List.eq_nil_of_length_eq_zero (by omega)
  cases j with
  |zero=>rfl
  |succ j=>rfl
 |k+1,0,l,_,hj=>by
  obtain rfl:l=[]:=List.eq_nil_of_length_eq_zero (by omega)
  rfl
 |k+1,j+1,l,hk,hj=>by
  rw[splitD,splitD]
  split
  ·rfl
  ·have hl:=ix_lt l 46
   rw[splitD_more k j _ (by rw[List.length_drop];omega) (by rw[List.length_drop];omega)]
theorem splitD_lens:∀(k:Nat) (l:List UInt8),∀p∈splitD k l,p.length<=l.length
 |0,l,p,hp=>by
  have:p=l:=by simpa[splitD]using hp
  rw[this];exact Nat.le_refl _
 |k+1,l,p,hp=>by
  rw[splitD]at hp
  split at hp
  ·have:p=l:=by simpa using hp
   rw[this];exact Nat.le_refl _
  ·rcases List.mem_cons.1 hp with rfl|hp
   ·rw[List.length_take];omega
   ·have:=splitD_lens k _ p hp
    rw[List.length_drop]at this
    omega
open Q (hid' ext_take ext_drop)
open X (RS)
theorem fNameByte_any (z:Int)(w:World):Calls Tryz.prog 148 #[.int .u8 z] w fun e w'=>w'=w/\e=.returned (.bool (nbI z)):=by
 go_enter Tryz.func148,Tryz.ntmps148
 go_wp2
 all_goals
  go_ret
  refine⟨rfl,congrArg (fun b=>Ending.returned (Value.bool b)) ?_⟩
  unfold nbI
  rw[Bool.eq_iff_iff]
  simp_all
  try omega
theorem fname1 (c:UInt8)(w:World):Calls Tryz.prog 147 #[.int .u8 (c.toNat:Int)] w fun e w'=>e=.returned (.bool (!nb c))/\Kept w w':=by
 go_enter Tryz.func147,Tryz.ntmps147
 go_wp2_with fail
 refine(fNameByte_any _ _).mono ?_
 rintro e w' ⟨rfl,rfl⟩
 go_wp2_with fail
 go_ret
 exact⟨rfl,Kept.refl _⟩
theorem fName_any (s:ByteArray)(w:World)(hs:s.size<=9223372036854775807):Calls Tryz.prog 119 #[.string s] w fun e w'=>Kept w w'/\e=.returned (.bool (okName s.data.toList)):=by
 have hl:s.data.toList.length=s.size:=by rw[Array.length_toList];rfl
 have HO:=hid' (show okName s.data.toList=(decide (1<=s.size/\s.size<=16) && !(s.data.toList.any fun c=>!nb c)) by unfold okName;rw[hl])
 generalize okName s.data.toList=ok at HO ⊢
 by_cases h1:s.size<1
 ·have h1':(s.size:Int)<1:=by omega
  go_enter Tryz.func119,Tryz.ntmps119
  go_wp2_with fail
  go_ret
  exact⟨Kept.refl _,by rw[HO.out,decide_eq_false (by omega)];rfl⟩
 ·have h1':¬(s.size:Int)<1:=by omega
  by_cases h2:16<s.size
  ·have h2':(16:Int)<(s.size:Int):=by omega
   go_enter Tryz.func119,Tryz.ntmps119
   go_wp2_with fail
   go_ret
   exact⟨Kept.refl _,by rw[HO.out,decide_eq_false (by omega)];rfl⟩
  ·have h2':¬(16:Int)<(s.size:Int):=by omega
   have hcv:=run_bytes_of_string (P:=Tryz.prog) w 9 107 5 s Tryz.underlying9 Tryz.underlying107 Tryz.underlying5
   have hB:BSl (w.alloc (.cells (bytesRow s (grownCap w s.size 0 5)) 5 ((bytesRow s (grownCap w s.size 0 5)).size,(bytesRow s (grownCap w s.size 0 5)).size+1))).drew (.slice (some ⟨w.heap.size,0,none⟩) s.size (grownCap w s.size 0 5)) s.data.toList:=by
    refine⟨_,_,by rw[hl],fun _=>⟨w.heap.size,0,rfl,by show w.heap.size<(w.alloc _).heap.size;simp,fun j hj=>?_⟩⟩
    have hj':j<s.data.size:=by rw[Array.length_toList]at hj;exact hj
    rw[Nat.zero_add]
    show (w.alloc _).cell? _=_
    rw[World.cell?_alloc_mark,bytesRow_at s _ j hj',List.getD_eq_getElem?_getD,List.getElem?_eq_getElem hj];rfl
   have hK:=(Kept.refl w).alloc (.cells (bytesRow s (grownCap w s.size 0 5)) 5 ((bytesRow s (grownCap w s.size 0 5)).size,(bytesRow s (grownCap w s.size 0 5)).size+1)) |>.drew
   have HB:=hid' (And.intro hB hK)
   clear hB hK
   go_enter Tryz.func119,Tryz.ntmps119
   go_wp2_with fail
   clear hcv
   generalize (w.alloc (.cells (bytesRow s (grownCap w s.size 0 5)) 5 ((bytesRow s (grownCap w s.size 0 5)).size,(bytesRow s (grownCap w s.size 0 5)).size+1))).drew=W at HB ⊢
   refine(con_bytes 147 #[] (fun c=>!nb c) (fun _ _=>by simp) _ _ _ _ W (fun V x hV=>(fname1 x V).mono fun e w' h=>⟨h.1,hV.trans h.2⟩) HB.out.1 (by omega)).mono ?_
   rintro e w' ⟨hk,rfl⟩
   have HN:=hid' (HB.out.2.trans hk)
   clear hk
   obtain⟨b,hb⟩:∃b,b=s.data.toList.any (fun c=>!nb c):=⟨_,rfl⟩
   rw[<-hb]
   have HO2:=hid' (show ok=!b by rw[HO.out,decide_eq_true (by omega),hb];rfl)
   clear hb HO
   go_wp2_with fail
   go_ret
   exact⟨HN.out,by rw[HO2.out];rfl⟩
def rowD (ps:List (List UInt8))(k:Nat):List Value:=ps.map (fun l=>Value.string (X.bs l))++List.replicate k (.string ⟨#[]⟩)
theorem rowD_at (ps:List (List UInt8))(k:Nat)(hk:0<k):(rowD ps k)[ps.length]?=some (.string ⟨#[]⟩):=by
 unfold rowD
 rw[List.getElem?_append_right (by simp),List.length_map,Nat.sub_self,List.getElem?_replicate,if_pos hk]
theorem rowD_set (ps:List (List UInt8))(k:Nat)(x:List UInt8):(rowD ps (k+1)).set ps.length (.string (X.bs x))=rowD (ps++[x]) k:=by
 unfold rowD
 rw[List.set_append_right _ _ (by simp),List.length_map,Nat.sub_self,List.replicate_succ,List.set_cons_zero,List.map_append]
 simp
theorem rowD_get (ps:List (List UInt8))(k j:Nat)(hj:j<ps.length):(rowD ps k)[j]?=some (.string (X.bs (ps.getD j []))):=by
 unfold rowD
 rw[List.getElem?_append_left (by simpa using hj),List.getElem?_map,List.getD_eq_getElem?_getD,List.getElem?_eq_getElem hj]
 rfl
theorem made_rows (n:Nat):madeCells (Value.string ByteArray.empty).cells (n*1)=(rowD [] n).toArray:=by
 apply Array.ext
 ·simp[madeCells,rowD]
 ·intro i h1 h2
  simp[madeCells,rowD,Value.cells]
  rw[Nat.mod_one]
  rfl
theorem genSplit_any (s:ByteArray)(w:World)(hs:s.size<=4611686018427387903) :
  Calls Tryz.prog 144 #[.string s,.string ⟨#[46]⟩,.int .i64 0,.int .i64 10] w fun e w'=>Kept w w'/\∃ao c,e=.returned (.slice ao (splitD 9 s.data.toList).length c)/\RS w' (.slice ao (splitD 9 s.data.toList).length c) (splitD 9 s.data.toList)/\c<=10:=by
 obtain⟨i0,hi,hz0,hz1,hz2⟩:=info_parts X.info_str
 have hl:s.data.toList.length=s.size:=by rw[Array.length_toList];rfl
 obtain⟨K,hK⟩:∃K,K=min 10 (s.size+1)-1:=⟨_,rfl⟩
 have hK9:K<=9:=by omega
 have HSP:=hid' (show splitD 9 s.data.toList=splitD K s.data.toList by
  by_cases h9:9<=s.size
  ·rw[show K=9 by omega]
  ·exact splitD_more _ _ _ (by omega) (by omega))
 obtain⟨P,hP⟩:∃P,P=splitD 9 s.data.toList:=⟨_,rfl⟩
 rw[<-hP]at HSP ⊢
 have hmk:∀u:World,(Instr.makeSlice 22 (.int .i64 ((K:Int)+1)) (.int .i64 ((K:Int)+1))).run Tryz.prog u=.ok (.slice (some ⟨u.heap.size,0,none⟩) (K+1) (K+1)) (u.alloc (.cells (rowD [] (K+1)).toArray 9)):=fun u=>by
  have h:=run_make (P:=Tryz.prog) u 22 9 i0 (.string ByteArray.empty) X.und_strs hi hz0 .i64 .i64 ((K:Int)+1) ((K:Int)+1) (by omega) (Int.le_refl _) (by rw[hz2];omega) (by omega)
  have e:((K:Int)+1).toNat=K+1:=by omega
  rw[e,hz1,made_rows]at h
  exact h
 have hmin:min (10:Int) ((s.size:Int)+1)=(K:Int)+1:=by omega
 have hmin':(if (10:Int)<=(s.size:Int)+1 then (10:Int) else (s.size:Int)+1)=(K:Int)+1:=by split <;> omega
 clear hK hP
 have kA:=(Kept.refl w).alloc (.cells (rowD [] (K+1)).toArray 9)
 have hA:=RowL.alloc 9 w (rowD [] (K+1))
 go_enter Tryz.func144,Tryz.ntmps144
 go_wp2_with fail
 generalize w.alloc (.cells (rowD [] (K+1)).toArray 9)=W at kA hA ⊢
 obtain⟨g,hg⟩:∃q,q=w.heap.size:=⟨_,rfl⟩
 rw[<-hg]at hA ⊢
 have HI:=hid' (And.intro kA hA)
 have HG:=hid' hg
 clear kA hA hg hmk hmin hmin'
 go_loopw [0,10] (fun v0 v10 wr=>∃(r:ByteArray) (ps:List (List UInt8)),ps.length<=K/\v0=.string r/\v10=.int .i64 (ps.length:Int)/\Hid (Kept w wr/\RowL 9 wr g (rowD ps (K-ps.length+1))/\P=ps++splitD (K-ps.length) r.data.toList/\r.size<=s.size)) (fun _ v10 _=>K-(intOf v10).toNat)
 case atStart=>exact⟨s,[],Nat.zero_le _,rfl,rfl,HI.out.1,HI.out.2,HSP.out,Nat.le_refl _⟩
 case round=>
  obtain⟨r,ps,hpl,rfl,rfl,H⟩:=hrel
  clear HI
  have hrs:=H.out.2.2.2
  have hfin:∀P',Hid (P'=ps++[r.data.toList])->Hid (Kept w (wr.setCell ⟨g,ps.length,none⟩ (.string r))/\RS (wr.setCell ⟨g,ps.length,none⟩ (.string r)) (.slice (some ⟨g,0,none⟩) P'.length (K+1)) P'):=by
   intro P' hP'
   have hrow:=H.out.2.1.set ps.length (.string (X.bs r.data.toList))
   rw[rowD_set,X.bs_back]at hrow
   refine⟨H.out.1.setCell (by show w.heap.size<=g;rw[HG.out];exact Nat.le_refl _) _,some ⟨g,0,none⟩,K+1,rfl,fun _=>⟨g,0,rfl,hrow.lt,fun j hj=>?_⟩⟩
   rw[Nat.zero_add]
   rw[hP'.out]at hj ⊢
   exact hrow.cell j _ (rowD_get _ _ j hj)
  have HFI:=hid' hfin
  have c0:=H.out.2.1.cell ps.length (.string ⟨#[]⟩) (rowD_at _ _ (by omega))
  have fz:=H.out.2.1.fz
  clear hfin
  obtain⟨i,hi9⟩:∃i,i=ps.length:=⟨_,rfl⟩
  rw[<-hi9]at hpl c0 ⊢
  have HII:=hid' hi9
  clear hi9
  have hi0:(0:Int)<=(i:Int):=by omega
  have hiK:(i:Int)<(K:Int)+1:=by omega
  have hiK':i<K+1:=by omega
  by_cases hit:i<K
  ·have hii:(i:Int)<(K:Int):=by omega
   have hix:=fun V=>sIx_any r V
   have hixl:=ix_lt r.data.toList 46
   have hixg:=Lib.indexByte_ge r.data.toList 46
   have hrl:r.data.toList.length=r.size:=by rw[Array.length_toList];rfl
   have HKi:=hid' (show K-i=(K-i-1)+1 by omega)
   obtain⟨z,hz⟩:∃z,z=Lib.indexByte r.data.toList 46:=⟨_,rfl⟩
   have HZ:=hid' hz
   rw[<-hz]at hix hixl hixg
   clear hz
   by_cases hz0:z<0
   ·have HP2:=HFI.out P (by
     rw[H.out.2.2.1,<-HII.out,HKi.out,splitD,<-HZ.out,if_pos hz0]
     exact rfl)
    rw[<-HII.out]at HP2
    have hPl:P.length=i+1:=by
     rw[H.out.2.2.1,<-HII.out,HKi.out,splitD,<-HZ.out,if_pos hz0,List.length_append,List.length_singleton,<-HII.out]
    rw[hPl]at HP2
    have HPL:=hid' hPl
    clear hPl hixl hixg
    go_wp2_with fail
    refine(hix _).mono ?_
    rintro e w1 ⟨rfl,rfl⟩
    go_wp2_with fail
    go_ret
    exact⟨HP2.out.1,_,_,by rw[HPL.out];rfl,by rw[HPL.out];exact HP2.out.2,by omega⟩
   ·have hzn:0<=z:=by omega
    obtain⟨k,rfl⟩:∃k:Nat,z=(k:Int):=⟨z.toNat,by omega⟩
    have hkr:k<r.size:=by omega
    have hki:(k:Int)<=(r.size:Int):=by omega
    have hki1:(k:Int)+1<=(r.size:Int):=by omega
    have HN:Hid (Kept w (wr.setCell ⟨g,i,none⟩ (.string (r.extract 0 k)))/\RowL 9 (wr.setCell ⟨g,i,none⟩ (.string (r.extract 0 k))) g (rowD (ps++[r.data.toList.take k]) (K-(ps++[r.data.toList.take k]).length+1))/\P=(ps++[r.data.toList.take k])++splitD (K-(ps++[r.data.toList.take k]).length) (r.extract (k+1) r.size).data.toList/\(r.extract (k+1) r.size).size<=s.size):=by
     have hlen:(ps++[r.data.toList.take k]).length=i+1:=by rw[List.length_append,List.length_singleton,<-HII.out]
     have hrow:=H.out.2.1.set ps.length (.string (X.bs (r.data.toList.take k)))
     rw[rowD_set,<-ext_take,X.bs_back,<-HII.out,ext_take]at hrow
     refine⟨H.out.1.setCell (by show w.heap.size<=g;rw[HG.out];exact Nat.le_refl _) _,?_,?_,?_⟩
     ·rw[hlen,show K-(i+1)+1=K-i by omega];exact hrow
     ·rw[hlen,ext_drop,H.out.2.2.1,<-HII.out,HKi.out,splitD,<-HZ.out,if_neg hz0,List.append_assoc,show K-(i+1)=K-i-1 by omega]
      rfl
     ·have:(r.extract (k+1) r.size).size<=r.size:=by simp
      omega
    clear hixl hixg HFI
    go_wp2_with fail
    refine(hix _).mono ?_
    rintro e w1 ⟨rfl,rfl⟩
    go_wp2_with fail
    go_roundw
    case rel=>exact⟨_,ps++[r.data.toList.take k],by rw[List.length_append,List.length_singleton,<-HII.out];omega,rfl,by rw[List.length_append,List.length_singleton,<-HII.out];go_num,HN.out⟩
    case measure=>show K-((i:Int)+1).toNat<K-(i:Int).toNat;omega
  ·have hii:¬(i:Int)<(K:Int):=by omega
   have HP2:=HFI.out P (by
    rw[H.out.2.2.1,<-HII.out,show K-i=0 by omega]
    exact rfl)
   rw[<-HII.out]at HP2
   have hPl:P.length=i+1:=by
    rw[H.out.2.2.1,<-HII.out,show K-i=0 by omega,List.length_append,<-HII.out]
    rfl
   rw[hPl]at HP2
   have HPL:=hid' hPl
   clear hPl
   go_wp2_with fail
   go_ret
   exact⟨HP2.out.1,_,_,by rw[HPL.out];rfl,by rw[HPL.out];exact HP2.out.2,by omega⟩
end V
end Go.Proofs.YtdjhmgmjiglcbaaGreatDoor
