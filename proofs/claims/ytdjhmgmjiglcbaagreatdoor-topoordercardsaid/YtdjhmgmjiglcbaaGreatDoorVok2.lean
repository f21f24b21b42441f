/- wave.hangsTogether, Valid. -/
import Derived.Test.YtdjhmgmjiglcbaaGreatDoorGap
import Derived.Shelf.Abstract
set_option maxHeartbeats 4000000
namespace Go.Proofs.YtdjhmgmjiglcbaaGreatDoor
open Go.RowKit
namespace V
open Q (hid' Row3 Row2)
theorem okS_all {ss:List Int}(h:ss.all okS=true)(i:Nat)(hi:i<ss.length):0<=ss.getD i 0/\ss.getD i 0<=1000000000:=by
 rw[List.all_eq_true]at h
 have:=h (ss.getD i 0) (by rw[List.getD_eq_getElem?_getD,List.getElem?_eq_getElem hi];exact List.getElem_mem hi)
 unfold okS at this
 simpa using this
theorem fits1 {n m:Nat}(h:fitsB 1 n m=true):n=1/\m=0:=by unfold fitsB at h;simpa using h
theorem fits2 {n m:Nat}(h:fitsB 2 n m=true):n=2/\m=5:=by unfold fitsB at h;simpa using h
theorem fits3 {n m:Nat}(h:fitsB 3 n m=true):(1<=n/\n<=16)/\m=n:=by unfold fitsB at h;simpa using h
theorem fits4 {n m:Nat}(h:fitsB 4 n m=true):(1<=n/\n<=16)/\m=0:=by unfold fitsB at h;simpa using h
theorem fits_kind {k:Int}{n m:Nat}(h:fitsB k n m=true):k=1∨k=2∨k=3∨k=4:=by
 unfold fitsB at h
 simp at h
 omega
theorem fits_len {k:Int}{n m:Nat}(h:fitsB k n m=true):1<=n/\n<=16/\m<=16:=by
 rcases fits_kind h with rfl|rfl|rfl|rfl
 ·have:=fits1 h;omega
 ·have:=fits2 h;omega
 ·have:=fits3 h;omega
 ·have:=fits4 h;omega
theorem hangs_any (k:Int)(a1 a2:Option Addr)(n c m c':Nat)(vs:List (Int×Int))(ss:List Int)(w:World)(h1:NSl w (.slice a1 n c) vs)(h2:ISl w (.slice a2 m c') ss)(hf:fitsB k n m=true)(hs:ss.all okS=true) :
  Calls Tryz.prog 197 #[.agg #[.int .i64 k,.slice a1 n c,.slice a2 m c']] w fun e w'=>Kept w w'/\e=.returned (.bool (hangB k ss)):=by
 have HF:=hid' hf
 have HS:=hid' (And.intro h1 (And.intro h2 hs))
 clear h1 h2 hf hs
 go_enter Tryz.func197,Tryz.ntmps197
 go_upto_region 1 with fail
 have hK:=(Kept.refl w).alloc (.cells #[.int .i64 k,.slice a1 n c,.slice a2 m c'] 44)
 have hR:=Row3.alloc 44 w (.int .i64 k) (.slice a1 n c) (.slice a2 m c')
 generalize w.alloc (.cells #[.int .i64 k,.slice a1 n c,.slice a2 m c'] 44)=W at hK hR ⊢
 obtain⟨p1,hp1⟩:∃p,p=w.heap.size:=⟨_,rfl⟩
 rw[<-hp1]at hR ⊢
 have HK:=hid' hK
 have q0:=hR.c0
 have q1:=hR.c1
 have q2:=hR.c2
 clear hp1 hK hR
 by_cases h2:k=2
 ·subst h2
  go_wp2_with fail
  have hnm:=fits2 HF.out
  have hl:=HS.out.2.1.len
  refine(pulseOf_any 2 a1 a2 n c m c' vs ss _ (HS.out.1.kept HK.out) (HS.out.2.1.kept HK.out) hnm.1 hnm.2).mono ?_
  rintro e w1 ⟨hk1,rfl⟩
  have HK1:=hid' (HK.out.trans hk1)
  clear hk1
  have s1:=okS_all HS.out.2.2 1 (by omega)
  have s2:=okS_all HS.out.2.2 2 (by omega)
  have s4:=okS_all HS.out.2.2 4 (by omega)
  have HB:Hid (∀g:Int,decide (1<=ss.getD 4 0/\g<=ss.getD 4 0-ss.getD 1 0-ss.getD 2 0)=(decide (1<=ss.getD 4 0)&&decide (ss.getD 1 0+ss.getD 2 0+g<=ss.getD 4 0))):=fun g=>by rw[Bool.eq_iff_iff];simp;omega
  have HU:Hid (hangB 2 ss=(decide (1<=ss.getD 4 0)&&decide (ss.getD 1 0+ss.getD 2 0+ss.getD 3 0<=ss.getD 4 0))):=by unfold hangB;rfl
  generalize (vs.getD 0 (0,0)).1=x0
  generalize (vs.getD 0 (0,0)).2=x1
  generalize (vs.getD 1 (0,0)).1=x2
  generalize (vs.getD 1 (0,0)).2=x3
  generalize ss.getD 0 0=y0 at *
  generalize ss.getD 1 0=y1 at *
  generalize ss.getD 2 0=y2 at *
  generalize ss.getD 3 0=y3 at *
  generalize ss.getD 4 0=y4 at *
  unfold pul
  go_wp2_with fail
  refine(fitsPeriod_any x0 x1 x2 x3 y0 y1 y2 y3 y4 _ s1 s2 s4).mono ?_
  rintro e w2 ⟨hk2,rfl⟩
  have HK2:=hid' (HK1.out.trans hk2)
  rw[HB.out y3,<-HU.out]
  clear hk2
  go_wp2_with fail
  go_ret
  exact⟨HK2.out,rfl⟩
 by_cases h3:k=3
 ·subst h3
  go_wp2_with fail
  have hnm:=fits3 HF.out
  refine(rising_any a2 m c' ss _ (HS.out.2.1.kept HK.out) (by omega)).mono ?_
  rintro e w1 ⟨hk1,rfl⟩
  have HK1:=hid' (HK.out.trans hk1)
  clear hk1
  go_wp2_with fail
  go_ret
  exact⟨HK1.out,rfl⟩
 have b2:(k == 2)=false:=by simpa using h2
 have b3:(k == 3)=false:=by simpa using h3
 go_wp2_with fail
 go_ret
 exact⟨HK.out,by unfold hangB;rw[if_neg h2,if_neg h3];rfl⟩
theorem enters1:∀args w,(callFunc 194 args).run Tryz.prog w=.ok (.enter 194 args) w:=enters_of Tryz.func194 (by kernel_rfl) rfl
theorem enters2:∀args w,(callFunc 195 args).run Tryz.prog w=.ok (.enter 195 args) w:=enters_of Tryz.func195 (by kernel_rfl) rfl
theorem any_not {α:Type}(l:List α)(p:α->Bool):(l.any fun x=>!p x)=!(l.all p):=by
 rw[List.not_all_eq_any_not]
theorem valid_any (k:Int)(a1 a2:Option Addr)(n c m c':Nat)(vs:List (Int×Int))(ss:List Int)(w:World)(h1:NSl w (.slice a1 n c) vs)(h2:ISl w (.slice a2 m c') ss) :
  Calls Tryz.prog 162 #[.agg #[.int .i64 k,.slice a1 n c,.slice a2 m c']] w fun e w'=>Kept w w'/\e=.returned (.bool (okW k vs ss)):=by
 have hU:okW k vs ss=(fitsB k n m&&(vs.all (fun p=>Q.okN p.1 p.2)&&ss.all okS)&&hangB k ss):=by unfold okW;rw[<-h1.len,<-h2.len]
 have HS:=hid' (And.intro h1 h2)
 rw[hU]
 clear h1 h2 hU
 go_enter Tryz.func162,Tryz.ntmps162
 go_upto_region 1 with fail
 have hK:=(Kept.refl w).alloc (.cells #[.int .i64 k,.slice a1 n c,.slice a2 m c'] 44)
 have hR:=Row3.alloc 44 w (.int .i64 k) (.slice a1 n c) (.slice a2 m c')
 generalize w.alloc (.cells #[.int .i64 k,.slice a1 n c,.slice a2 m c'] 44)=W at hK hR ⊢
 obtain⟨p1,hp1⟩:∃p,p=w.heap.size:=⟨_,rfl⟩
 rw[<-hp1]at hR ⊢
 have HK:=hid' hK
 have HR:=hid' hR
 have q0:=hR.c0
 have q1:=hR.c1
 have q2:=hR.c2
 clear hp1 hK hR
 go_wp2_with fail
 refine(fits_any k a1 a2 n c m c' _).mono ?_
 rintro e w1 ⟨hk1,rfl⟩
 have HK1:=hid' (HK.out.trans hk1)
 have HR1:=hid' (HR.out.kept hk1)
 clear hk1 q0 q1 q2
 by_cases hf:fitsB k n m=true
 ·have HF:=hid' hf
  rw[hf]
  clear hf
  have q1:=HR1.out.c1
  go_wp2_with fail
  have hlen:=fits_len HF.out
  refine(con_nums 194 #[] (fun x y=>!Q.okN x y) enters1 a1 n c vs _ (fun W' x y hW=>(cl1 x y W').mono fun e w' ⟨he,hk⟩=>⟨he,hW.trans hk⟩) (HS.out.1.kept HK1.out) (by omega)).mono ?_
  rintro e w2 ⟨hk2,rfl⟩
  have HK2:=hid' (HK1.out.trans hk2)
  have HR2:=hid' (HR1.out.kept hk2)
  rw[any_not vs (fun p=>Q.okN p.1 p.2)]
  obtain⟨bv,hbv⟩:∃b,b=vs.all (fun p=>Q.okN p.1 p.2):=⟨_,rfl⟩
  rw[<-hbv]
  have HBV:=hid' hbv
  clear hbv
  clear hk2 q1
  have q2:=HR2.out.c2
  go_wp2_with fail
  refine(con_ints 195 #[] (fun x=>!okS x) enters2 a2 m c' ss _ (fun W' x hW=>(cl2 x W').mono fun e w' ⟨he,hk⟩=>⟨he,hW.trans hk⟩) (HS.out.2.kept HK2.out) (by omega)).mono ?_
  rintro e w3 ⟨hk3,rfl⟩
  have HK3:=hid' (HK2.out.trans hk3)
  have HR3:=hid' (HR2.out.kept hk3)
  rw[any_not ss okS]
  clear hk3 q2
  have q0:=HR3.out.c0
  have q1:=HR3.out.c1
  have q2:=HR3.out.c2
  cases bv
  ·generalize ss.all okS=bs
   go_wp2_with fail
   go_ret
   exact⟨HK3.out,by rw[<-HBV.out,HF.out];rfl⟩
  by_cases hs:ss.all okS=true
  ·have HO:=hid' hs
   rw[hs]
   clear hs
   go_wp2_with fail
   refine(hangs_any k a1 a2 n c m c' vs ss _ (HS.out.1.kept HK3.out) (HS.out.2.kept HK3.out) HF.out HO.out).mono ?_
   rintro e w4 ⟨hk4,rfl⟩
   have HK4:=hid' (HK3.out.trans hk4)
   clear hk4 q0 q1 q2
   go_wp2_with fail
   go_ret
   exact⟨HK4.out,by rw[<-HBV.out,HF.out,HO.out];rfl⟩
  ·have hs:ss.all okS=false:=by simpa using hs
   rw[hs]
   go_wp2_with fail
   go_ret
   exact⟨HK3.out,by rw[<-HBV.out,HF.out,hs];rfl⟩
 ·have hf:fitsB k n m=false:=by simpa using hf
  rw[hf]
  go_wp2_with fail
  go_ret
  exact⟨HK1.out,by rw[hf];rfl⟩
end V
end Go.Proofs.YtdjhmgmjiglcbaaGreatDoor
