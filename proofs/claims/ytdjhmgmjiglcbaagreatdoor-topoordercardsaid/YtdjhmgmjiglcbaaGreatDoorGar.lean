/- Lemmas. -/
import Derived.Test.YtdjhmgmjiglcbaaGreatDoorGan
import Derived.Test.YtdjhmgmjiglcbaaGreatDoorGao
import Derived.Test.YtdjhmgmjiglcbaaGreatDoorGag
set_option maxRecDepth 100000
set_option maxHeartbeats 8000000
namespace Go.Proofs.YtdjhmgmjiglcbaaGreatDoor
open Go.RowKit
namespace F
theorem nan_r (x:Int)(w:World):Calls Tryz.prog 244 #[.int .i64 x] w fun e w'=>e=.returned (.bool false)/\Kept w w':=by
 go_enter Tryz.func244,Tryz.ntmps244
 go_wp2
 go_ret
 exact⟨rfl,Kept.refl w⟩
theorem Compare_r (x y:Int)(w:World):Calls Tryz.prog 225 #[.int .i64 x,.int .i64 y] w fun e w'=>e=.returned (.int .i64 (isgn x y))/\Kept w w':=by
 obtain⟨z,HX⟩:∃z,Hid (z=isgn x y):=⟨_,rfl⟩
 rw[<-HX.out]
 rcases Int.lt_trichotomy x y with h|rfl|h
 all_goals
  go_enter Tryz.func225,Tryz.ntmps225
  go_wp2_with fail
  refine(nan_r _ _).mono ?_
  rintro e w1 ⟨rfl,hk1⟩
  have HK1:=hk1
  clear hk1
  go_wp2_with fail
  refine(nan_r _ _).mono ?_
  rintro e w2 ⟨rfl,hk2⟩
  have HK:Hid (Kept w w2):=HK1.trans hk2
  clear hk2 HK1
  go_wp2
  go_ret
  exact⟨ret_i64 (by rw[HX.out];unfold isgn;split <;> (try split) <;> omega),HK.out⟩
end F
namespace V
open Q (hid')
theorem ints_same (a1:Option Addr)(n c1:Nat)(a2:Option Addr)(c2:Nat)(l:List Int)(w:World)(h1:ISl w (.slice a1 n c1) l)(h2:ISl w (.slice a2 n c2) l)(hn:n<=9223372036854775807) :
  Calls Tryz.prog 13 #[.slice a1 n c1,.slice a2 n c2] w fun e w'=>Kept w w'/\e=.returned (.bool true):=by
 have hl:n=l.length:=by obtain⟨_,_,e,_⟩:=h1;simp at e;exact e.2.1
 have HL:=hid' (And.intro h1 (And.intro h2 hl))
 clear h1 h2 hl
 go_enter Tryz.func13,Tryz.ntmps13
 go_wp2_with fail
 go_loopw [5] (fun v5 wr=>∃(i:Nat),i<=n/\v5=.int .i64 (i:Int)/\Hid (Kept w wr)) (fun v5 _=>n-(intOf v5).toNat)
 case atStart=>exact⟨0,Nat.zero_le _,rfl,Kept.refl _⟩
 case round=>
  obtain⟨i,hi,rfl,H⟩:=hrel
  by_cases hit:i<n
  ·have hii:(i:Int)<(n:Int):=by omega
   have hi0:(0:Int)<=(i:Int):=by omega
   have HK:=hid' (H.out.trans (Kept.refl wr).drew)
   have hiL:i<l.length:=by have:=HL.out.2.2;omega
   obtain⟨x1,y1,e1,hc1⟩:=HL.out.1.kept HK.out
   simp only[Value.slice.injEq]at e1
   obtain⟨rfl,-,rfl⟩:=e1
   obtain⟨b1,o1,rfl,_,hd1⟩:=hc1 (by omega)
   obtain⟨x2,y2,e2,hc2⟩:=HL.out.2.1.kept HK.out
   simp only[Value.slice.injEq]at e2
   obtain⟨rfl,-,rfl⟩:=e2
   obtain⟨b2,o2,rfl,_,hd2⟩:=hc2 (by omega)
   have k1:=hd1 i hiL
   have k2:=hd2 i hiL
   clear hc1 hd1 hc2 hd2
   generalize l.getD i 0=x at k1 k2
   go_upto_region 6 with fail
   refine wp_region_held_drew (S:=fun w'=>w'.cell? ⟨b1,o1+i,none⟩=some (.int .i64 x)/\w'.cell? ⟨b2,o2+i,none⟩=some (.int .i64 x)) (by kernel_rfl) ⟨k1,k2⟩ (fun hHeld=>?_)
   clear k1 k2
   generalize wr.drew=Wd at HK hHeld ⊢
   refine tk 0 hHeld ?_
   refine tk 1 hHeld ?_
   refine tk 2 hHeld ?_
   refine tk 3 hHeld ?_
   refine tk 4 hHeld ?_
   refine tk 5 hHeld ?_
   refine tk 6 hHeld ?_
   refine tk 7 hHeld ?_
   refine tk 8 hHeld ?_
   refine _root_.Go.Proofs.YtdjhmgmjiglcbaaGreatDoor.dn ?_
   clear hHeld
   go_wp2_with fail
   go_roundw
   case rel=>exact⟨i+1,by omega,by go_num,HK.out⟩
   case measure=>show n-((i:Int)+1).toNat<n-(i:Int).toNat;omega
  ·have hii:¬(i:Int)<(n:Int):=by omega
   go_wp2_with fail
   go_ret
   exact⟨H.out,rfl⟩
end V
end Go.Proofs.YtdjhmgmjiglcbaaGreatDoor
