/- shuntlaw14.BareissNarrow: its walk. -/
import Derived.Test.YtdcfammglpebaaaGreatGaw
import Derived.Test.YtdcfammglpebaaaGreatGaw
import Derived.Test.YtdcfammglpebaaaGreatGam
import Derived.Test.YtdcfammglpebaaaGreatGag
namespace Go.Proofs.YtdcfammglpebaaaGreat
open Go.RowKit
open V (RowL RowL.alloc RowL.lt RowL.cell RowL.fz RowL.kept RowL.set RowL.far)
open Sp (hid)
open Sy
open Bm (ZI ZI.kept ZI.of MxR ZsR mxr_at mxr_kept zsr_at zsr_kept mOk)
open Ba (stg lastP pivs facS Fits)
namespace Bp
set_option maxRecDepth 100000 in
set_option maxHeartbeats 40000000 in
theorem narrowl14_any (ao bo:Option Addr) (n cap nb capb:Nat) (limbs:Int) (L:List LE) (Bs:List ZE) (w:World) (h:MxR w ao L) (hb:ZsR w bo Bs) (hl:n = L.length) (hlb:nb = Bs.length) (hn:n≤1000000000000000) (hnb:nb≤1000000000000000) (hs:∀ r ∈ L,r.cs.length≤1000000000000000) (hl1:-9223372036854775808≤limbs) (hl2:limbs≤9223372036854775807) :
  Calls Tryz.prog 5 #[.slice ao n cap,.slice bo nb capb,.int .i64 limbs] w fun e w' => Kept w w'∧e = .returned (.bool true):=by
 have HL:=hid (And.intro h (And.intro hb (And.intro hl (And.intro hlb hs))))
 clear h hb hl hlb hs
 go_enter Tryz.func5,Tryz.ntmps5
 go_wp2_with fail
 refine (awake14_any w).mono ?_
 rintro e w1 ⟨K1,rfl⟩
 have HK:=hid K1
 clear K1
 --%A
 go_wp2_with fail
 refine (Bm.heavy_any ao bo n cap nb capb L Bs w1 (mxr_kept HL.out.1 HK.out) (zsr_kept HL.out.2.1 HK.out) HL.out.2.2.1 HL.out.2.2.2.1 hn hnb HL.out.2.2.2.2).mono ?_
 rintro e w2 ⟨hk,bb,rfl,hlt⟩
 have HK:=hid (HK.out.trans hk)
 have HLt:=hid hlt
 clear hk hlt
 cases bb with
 | true =>
  go_wp2_with fail
  go_ret
  exact ⟨HK.out,rfl⟩
 | false =>
 have hLt:=HLt.out rfl
 have hn61:n≤61:=by rw [HL.out.2.2.1]; exact hLt.1
 have HSz:=hid (fun l (hl:l ∈ L) => (hLt.2.1 l hl).1)
 clear hLt HLt hn
 --%B
 go_wp2_with fail
 refine (Bm.fault_any ao n cap L w2 (mxr_kept HL.out.1 HK.out) HL.out.2.2.1 (by omega) (fun l hl => Nat.le_trans (HSz.out l hl) (by decide))).mono ?_
 rintro e w3 ⟨hk,rfl⟩
 have HK:=hid (HK.out.trans hk)
 clear hk
 by_cases hok:mOk L = true
 rotate_left
 ·
  rw [if_neg hok]
  go_wp2_with fail
  go_ret
  exact ⟨HK.out,rfl⟩
 rw [if_pos hok]
 have HOk:=hid hok
 have hn48:n≤48:=by
  unfold mOk at hok
  rw [Bool.and_eq_true,decide_eq_true_eq] at hok
  rw [HL.out.2.2.1]
  exact hok.1
 clear hok hn61
 by_cases h1:limbs < 1
 ·
  --%C1
  go_wp2_with fail
  go_ret
  exact ⟨HK.out,rfl⟩
 by_cases h2:32 < limbs
 ·
  --%C2
  go_wp2_with fail
  go_ret
  exact ⟨HK.out,rfl⟩
 by_cases hbn:nb = n
 rotate_left
 ·
  have e1:¬ (nb:Int) = (n:Int):=by omega
  have e2:((nb:Int) == (n:Int)) = false:=by simpa using e1
  have e3:((nb:Int) != (n:Int)) = true:=by simp [bne,e2]
  --%C3
  go_wp2_with fail
  go_ret
  exact ⟨HK.out,rfl⟩
 subst hbn
 obtain ⟨lm,rfl⟩:∃ lm:Nat,limbs = (lm:Int):=⟨limbs.toNat,by omega⟩
 have hlm:1≤lm:=by omega
 have hlm2:lm≤32:=by omega
 --%D
 go_wp2_with fail
 go_loopw [40] (fun v40 wr => ∃ j:Nat,j≤nb∧v40 = .int .i64 (j:Int)∧Hid (Kept w3 wr∧∀ i,i < j→zsB Bs i = true)) (fun v40 _ => nb - (intOf v40).toNat)
 case atStart => exact ⟨0,Nat.zero_le _,rfl,Kept.refl _,fun i hi => absurd hi (Nat.not_lt_zero _)⟩
 case round =>
  obtain ⟨i,hi,rfl,H⟩:=hrel
  generalize wr = w4 at H ⊢
  by_cases hit:i < nb
  ·
   have hii:(i:Int) < (nb:Int):=by omega
   have hi0:(0:Int)≤(i:Int):=by omega
   have hiB:i < Bs.length:=by have:=HL.out.2.2.2.1; omega
   obtain ⟨b1,o1,m1,zo1,zc1,zl1,rfl,hB1,hcb,okb⟩:=zsr_at (zsr_kept HL.out.2.1 (HK.out.trans H.out.1)) hiB
   have c1:=(hcb w4 (Kept.refl _)).1
   have c2':=(hcb w4 (Kept.refl _)).2
   have HB:=hid (And.intro okb (And.intro hB1 hiB))
   obtain ⟨zk,hzk⟩:∃ l,l = zl1.length:=⟨_,rfl⟩
   rw [← hzk] at c2'
   have HZk:=hid hzk
   have rV:=RowL.alloc 37 w4 [.bool m1,.slice zo1 zk zc1]
   have kV:=(Kept.refl w4).alloc (.cells #[.bool m1,.slice zo1 zk zc1] 37)
   clear hcb okb hB1 hzk
   --%E
   go_upto_region 8 with fail
   generalize w4.alloc (.cells #[.bool m1,.slice zo1 zk zc1] 37) = w5 at rV kV ⊢
   obtain ⟨p8,hp8⟩:∃ p,p = w4.heap.size:=⟨_,rfl⟩
   rw [← hp8] at rV ⊢
   have H5:=hid (And.intro (H.out.1.trans kV) (And.intro rV kV))
   clear c1 c2' hp8 rV kV
   have d0:=H5.out.2.1.cell 0 _ rfl
   have d1:=H5.out.2.1.cell 1 _ rfl
   have hrg:=Bm.rgt_any ⟨m1,zo1,zc1,zl1⟩ w5 (HB.out.1.kept H5.out.2.2)
   have hrg:Calls Tryz.prog 25 #[.agg #[.bool m1,.slice zo1 zk zc1]] w5 fun e w' => Kept w5 w'∧e = .returned (.bool (ZE.right ⟨m1,zo1,zc1,zl1⟩)):=by rw [HZk.out]; exact hrg
   --%F
   go_wp2_with fail
   refine hrg.mono ?_
   rintro e w6 ⟨hk,rfl⟩
   have H6:=hid (H5.out.1.trans hk)
   clear hk hrg d0 d1
   obtain ⟨rt,hrt⟩:∃ b,b = ZE.right ⟨m1,zo1,zc1,zl1⟩:=⟨_,rfl⟩
   rw [← hrt]
   have HRt:=hid hrt
   clear hrt
   cases rt with
   | false =>
    --%G
    go_wp2_with fail
    go_ret
    exact ⟨HK.out.trans H6.out,rfl⟩
   | true =>
    --%H
    go_wp2_with fail
    go_roundw
    case rel => exact ⟨i + 1,by omega,by go_num,H6.out,fun j hj => by
      by_cases e:j = i
      ·
       subst e
       unfold zsB
       rw [getD_in HB.out.2.2,HB.out.2.1]
       exact HRt.out.symm
      ·
       exact H.out.2 j (by omega)⟩
    case measure => show nb - ((i:Int) + 1).toNat < nb - (i:Int).toNat; omega
  ·
   have hii:¬ (i:Int) < (nb:Int):=by omega
   obtain rfl:i = nb:=by omega
   have HB:=hid H.out.2
   have HK:=hid (HK.out.trans H.out.1)
   clear H
   --%I
   go_wp2_with fail
   refine (square14_any ao i cap L w4 (mxr_kept HL.out.1 HK.out) HL.out.2.2.1 HOk.out).mono ?_
   rintro e w5 ⟨hk,sqo,sqc,rfl,hsq⟩
   have H5:=hid (And.intro (HK.out.trans hk) hsq)
   clear hk hsq
   --%J
   go_wp2_with fail
   refine (take14_any bo i capb Bs w5 (zsr_kept HL.out.2.1 H5.out.1) HL.out.2.2.2.1 (by omega) HB.out).mono ?_
   rintro e w6 ⟨hk,tko,tkc,rfl,htk⟩
   have H6:=hid (And.intro (H5.out.1.trans hk) (And.intro (H5.out.2.kept hk) htk))
   clear hk htk
   --%K
   go_wp2_with fail
   refine (narrow14_any sqo tko i sqc tkc lm (matF L) (zsF Bs) w6 H6.out.2.1 H6.out.2.2 hn48 hlm hlm2).mono ?_
   rintro e w7 ⟨hk,hN⟩
   obtain ⟨r,rfl,hr⟩:=hN
   have HK:=hid (H6.out.1.trans hk)
   have HR:=hid hr
   clear hk hr
   cases r with
   | false =>
    --%L
    go_wp2_with fail
    go_ret
    exact ⟨HK.out,rfl⟩
   | true =>
   have HNa:=hid (prZ_narrow (HR.out rfl))
   --%M
   go_wp2_with fail
   refine (new_any ao i cap (lm:Int) L w7 (mxr_kept HL.out.1 HK.out) HL.out.2.2.1 (fun l hl => Nat.le_trans (HSz.out l hl) (by decide)) (by omega) (by omega) (by omega)).mono ?_
   rintro e w8 hN
   obtain ⟨hk,ps,er,pt,hs1,hf1,rfl,he1,hp1⟩:=new_uni hN HOk.out (by omega)
   rw [Int.toNat_natCast] at hs1 hp1
   have h13:=fac_narrow HNa.out hs1
   have H8:=hid (And.intro (HK.out.trans hk) (And.intro hs1 (And.intro hf1 hp1)))
   clear hN hk hs1 hf1 hp1
   --%N
   rcases he1 with rfl | rfl | rfl
   rotate_left
   ·
    go_wp2_with fail
    go_ret
    exact ⟨H8.out.1,rfl⟩
   ·
    exact absurd rfl h13
   obtain ⟨fb,sa,sk,sc,Ss,rfl,hF⟩:=H8.out.2.2.2 rfl
   have hpl:=fac0_len H8.out.2.1
   have hsk:sk = i:=by rw [hF.len,hpl]
   rw [hsk] at hF
   clear hsk
   have HF:=hid (And.intro hF hpl)
   clear hF
   rw [hpl]
   clear hpl
   --%O
   go_wp2_with fail
   refine (solve_full _ fb i i lm sa sc Ss (matF L) (zsB Bs) (zsF Bs) ps bo capb w8 HF.out.1 H8.out.2.2.1 HF.out.2 H8.out.2.1 hlm2 hn48 (by omega) (zsr_q (zsr_kept HL.out.2.1 H8.out.1) i capb HL.out.2.2.2.1) (fun hr => zsr_il (zsr_kept HL.out.2.1 H8.out.1) i capb HL.out.2.2.2.1 hr) (zsr_nil HL.out.2.1 i HL.out.2.2.2.1)).mono ?_
   rintro e w9 hS
   obtain ⟨hk,xo,xc,s,o,k,c,rfl⟩:=hS.narrow2 HNa.out H8.out.2.2.1 HF.out.2 rfl HB.out
   have rS:=RowL.alloc 54 w9 [.slice xo i xc,.bool s,.slice o k c]
   have kS:=(Kept.refl w9).alloc (.cells #[.slice xo i xc,.bool s,.slice o k c] 54)
   have H9:=hid ((H8.out.1.trans hk).trans kS)
   clear hk kS hS
   --%P
   go_upto_region 17 with fail
   generalize w9.alloc (.cells #[.slice xo i xc,.bool s,.slice o k c] 54) = w10 at rS H9 ⊢
   obtain ⟨p,hp⟩:∃ p,p = w9.heap.size:=⟨_,rfl⟩
   rw [← hp] at rS ⊢
   clear hp
   have d0:=rS.cell 0 _
   have d1:=rS.cell 1 _
   have d2:=rS.cell 2 _
   --%Q
   go_wp2_with fail
   go_ret
   exact ⟨H9.out,rfl⟩
end Bp
end Go.Proofs.YtdcfammglpebaaaGreat
