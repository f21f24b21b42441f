/- Lemmas. -/
import Derived.Test.YtdjhmgmjiglcbaaGreatDoorGaq
import Derived.Lib.Bytealg
set_option maxRecDepth 100000
set_option maxHeartbeats 4000000
namespace Go.Proofs.YtdjhmgmjiglcbaaGreatDoor
open Go.RowKit
namespace V
open Q (hid')
theorem slIndex_any (s:ByteArray)(c:Int)(w:World):Calls Tryz.prog 212 #[.string s,.int .u8 c] w fun e w'=>w'=w/\e=.returned (.int .i64 (Lib.indexByte s.data.toList c.toNat.toUInt8)):=by
 go_enter Tryz.func212,Tryz.ntmps212
 go_wp2
 rw[run_callFunc_extern Tryz.func238 (by kernel_rfl) (by kernel_rfl) (by kernel_rfl) (e:=Extern.BytealgIndexByte.indexByte) (by kernel_rfl),Lib.run_indexByteString]
 simp only[Result.andThen]
 rw[Oper.upon_value]
 go_wp2
 go_ret
 exact⟨rfl,rfl⟩
theorem index_any (s:ByteArray)(c:Int)(w:World):Calls Tryz.prog 186 #[.string s,.int .u8 c] w fun e w'=>w'=w/\e=.returned (.int .i64 (Lib.indexByte s.data.toList c.toNat.toUInt8)):=by
 go_enter Tryz.func186,Tryz.ntmps186
 go_wp2_with fail
 refine(slIndex_any _ _ _).mono ?_
 rintro e w' ⟨rfl,rfl⟩
 go_wp2_with fail
 go_ret
 exact⟨rfl,rfl⟩
theorem among_any (c:Int)(s:ByteArray)(w:World):Calls Tryz.prog 157 #[.int .u8 c,.string s] w fun e w'=>w'=w/\e=.returned (.bool (decide (0<=Lib.indexByte s.data.toList c.toNat.toUInt8))):=by
 obtain⟨z,hz⟩:∃z,z=Lib.indexByte s.data.toList c.toNat.toUInt8:=⟨_,rfl⟩
 rw[<-hz]
 have HZ:=hid' hz
 clear hz
 go_enter Tryz.func157,Tryz.ntmps157
 go_wp2_with fail
 refine(index_any _ _ _).mono ?_
 rintro e w' ⟨rfl,rfl⟩
 rw[<-HZ.out]
 go_wp2_with fail
 go_ret
 exact⟨rfl,rfl⟩
open Q (hid')
def kindsL:List UInt8:=[114,99,108,118,105,101,103,102,104,116,100,115,120]
def devB (l:List UInt8):Bool:=okName l&&decide (0<=Lib.indexByte kindsL (l.getD 0 0))
theorem cdev_any (s:ByteArray)(w:World)(hs:s.size<=9223372036854775807):Calls Tryz.prog 136 #[.string s] w fun e w'=>w'=w/\e=.returned (.bool (devB s.data.toList)):=by
 have hl:s.data.toList.length=s.size:=by rw[Array.length_toList];rfl
 obtain⟨r,hr⟩:∃r,r=devB s.data.toList:=⟨_,rfl⟩
 rw[<-hr]
 unfold devB at hr
 obtain⟨ok,hok⟩:∃ok,ok=okName s.data.toList:=⟨_,rfl⟩
 rw[<-hok]at hr
 have HOK:=hid' hok
 clear hok
 cases ok
 ·have HR:=hid' hr
  clear hr hl
  go_enter Tryz.func136,Tryz.ntmps136
  go_wp2_with fail
  refine(cname_any _ _ hs).mono ?_
  rintro e w' ⟨rfl,rfl⟩
  rw[<-HOK.out]
  go_wp2_with fail
  go_ret
  exact⟨rfl,by rw[HR.out];rfl⟩
 ·have h0:0<s.size:=by
   have:=HOK.out
   unfold okName at this
   have h2:=(Bool.and_eq_true _ _ ▸ this.symm).1
   have h3:=of_decide_eq_true h2
   omega
  have hg:s.data.toList.getD 0 0=s[0]:=by rw[List.getD_eq_getElem?_getD,bl_at' s 0 h0];rfl
  rw[hg,Bool.true_and]at hr
  have HR:=hid' hr
  have h0':(0:Int)<(s.size:Int):=by omega
  clear hr hl hg
  go_enter Tryz.func136,Tryz.ntmps136
  go_wp2_with fail
  refine(cname_any _ _ hs).mono ?_
  rintro e w' ⟨rfl,rfl⟩
  rw[<-HOK.out]
  go_wp2_with fail
  refine(among_any _ _ _).mono ?_
  rintro e w' ⟨rfl,rfl⟩
  have HE:=hid' (show decide ((0:Int)<=Lib.indexByte (⟨#[114,99,108,118,105,101,103,102,104,116,100,115,120]⟩:ByteArray).data.toList ((s[0].toNat:Int)).toNat.toUInt8)=r by
   rw[HR.out,Int.toNat_natCast]
   congr 3
   simp)
  rw[HE.out]
  go_wp2_with fail
  go_ret
  exact⟨rfl,rfl⟩
end V
end Go.Proofs.YtdjhmgmjiglcbaaGreatDoor
