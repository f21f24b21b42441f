/- shuntlaw14.awake. -/
import Derived.Test.YtdcgdpbgnijnpaaGreatGay
import Derived.Test.YtdcgdpbgnijnpaaGreatGad
namespace Go.Proofs.YtdcgdpbgnijnpaaGreat
open Go.RowKit
open V (RowL RowL.alloc RowL.lt RowL.cell RowL.fz RowL.kept)
open Sp (hid)
open Sy
open Bm (ZI ZI.kept ZI.of MxR ZsR mxr_at mxr_kept zsr_at zsr_kept cel_at mOk)
open Ba (stg lastP pivs wideZ facS Fits)
namespace Bp
def aL (pa pb:Nat) (a1 a2 a3 a4:Option Addr) (c1 c2 c3 c4:Nat):List LE:=[⟨some ⟨pa,0,none⟩,2,[⟨0,⟨false,a1,c1,[2]⟩⟩,⟨1,⟨false,a2,c2,[1]⟩⟩]⟩,⟨some ⟨pb,0,none⟩,2,[⟨0,⟨false,a3,c3,[1]⟩⟩,⟨1,⟨false,a4,c4,[3]⟩⟩]⟩]
def aL2 (pa pb:Nat) (a1 a2 a3 a4:Option Addr) (c1 c2 c3 c4:Nat):List LE:=[⟨some ⟨pa,0,none⟩,2,[⟨0,⟨false,a1,c1,[1]⟩⟩,⟨1,⟨false,a2,c2,[2]⟩⟩]⟩,⟨some ⟨pb,0,none⟩,2,[⟨0,⟨false,a3,c3,[2]⟩⟩,⟨1,⟨false,a4,c4,[4]⟩⟩]⟩]
def aZ (a5 a6:Option Addr) (c5 c6:Nat):List ZE:=[⟨false,a5,c5,[5]⟩,⟨false,a6,c6,[10]⟩]
section
variable {pa pb:Nat} {a1 a2 a3 a4 a5 a6:Option Addr} {c1 c2 c3 c4 c5 c6:Nat}
theorem aL_ok:mOk (aL pa pb a1 a2 a3 a4 c1 c2 c3 c4) = true:=by kernel_rfl
theorem aL_fac:facS 2 (32:Int).toNat (matF (aL pa pb a1 a2 a3 a4 c1 c2 c3 c4)) = ([(0,0),(1,1)],0):=by kernel_rfl
theorem aL_last:lastP (matF (aL pa pb a1 a2 a3 a4 c1 c2 c3 c4)) [(0,0),(1,1)] = 5:=by kernel_rfl
theorem aL_det:detP (matF (aL pa pb a1 a2 a3 a4 c1 c2 c3 c4)) [(0,0),(1,1)] 2 = 5:=by kernel_rfl
theorem aL_sd0:sdW 2 32 (matF (aL pa pb a1 a2 a3 a4 c1 c2 c3 c4)) (zsF (aZ a5 a6 c5 c6)) [(0,0),(1,1)] 0 = false:=by kernel_rfl
theorem aL_sd1:sdW 2 32 (matF (aL pa pb a1 a2 a3 a4 c1 c2 c3 c4)) (zsF (aZ a5 a6 c5 c6)) [(0,0),(1,1)] 1 = false:=by kernel_rfl
theorem aL_sd2:sdW 2 32 (matF (aL pa pb a1 a2 a3 a4 c1 c2 c3 c4)) (zsF (aZ a5 a6 c5 c6)) [(0,0),(1,1)] 2 = false:=by kernel_rfl
theorem aL_sd:∀ k,k≤2→sdW 2 32 (matF (aL pa pb a1 a2 a3 a4 c1 c2 c3 c4)) (zsF (aZ a5 a6 c5 c6)) [(0,0),(1,1)] k = false:=by
 intro k hk
 match k,hk with
 | 0,_ => exact aL_sd0
 | 1,_ => exact aL_sd1
 | 2,_ => exact aL_sd2
theorem w5:wideZ 32 5 = false:=by kernel_rfl
theorem w15:wideZ 32 15 = false:=by kernel_rfl
theorem aL_bk0:bkA 2 (matF (aL pa pb a1 a2 a3 a4 c1 c2 c3 c4)) (zsF (aZ a5 a6 c5 c6)) [(0,0),(1,1)] 0 = 5:=by kernel_rfl
theorem aL_bk1:bkA 2 (matF (aL pa pb a1 a2 a3 a4 c1 c2 c3 c4)) (zsF (aZ a5 a6 c5 c6)) [(0,0),(1,1)] 1 = 15:=by kernel_rfl
theorem aL_bkw:∀ j,j < 2→wideZ 32 (bkA 2 (matF (aL pa pb a1 a2 a3 a4 c1 c2 c3 c4)) (zsF (aZ a5 a6 c5 c6)) [(0,0),(1,1)] j) = false:=by
 intro j hj
 match j,hj with
 | 0,_ => rw [aL_bk0]; exact w5
 | 1,_ => rw [aL_bk1]; exact w15
theorem aZ_ok:Bp.anyB (fun j => !zsB (aZ a5 a6 c5 c6) j) 2 = false:=by kernel_rfl
theorem aL2_ok:mOk (aL2 pa pb a1 a2 a3 a4 c1 c2 c3 c4) = true:=by kernel_rfl
theorem aL2_fac:facS 2 (32:Int).toNat (matF (aL2 pa pb a1 a2 a3 a4 c1 c2 c3 c4)) = ([(0,0)],140):=by kernel_rfl
end
set_option maxRecDepth 100000 in
set_option maxHeartbeats 16000000 in
theorem awake14_any (w:World):Calls Tryz.prog 4 #[] w fun e w' => Kept w w'∧e = .returned (.bool true):=by
 go_enter Tryz.func4,Tryz.ntmps4
 go_wp2_with fail
 refine (cell1_any 0 2 2 w rfl (by decide) (by decide)).mono ?_
 rintro e uw0 ⟨hk,ua0,uc0,rfl,hz⟩
 have uK:=hk
 have uz0:=hz
 clear hk hz
 go_wp2_with fail
 refine (cell1_any 1 1 1 uw0 rfl (by decide) (by decide)).mono ?_
 rintro e uw1 ⟨hk,ua1,uc1,rfl,hz⟩
 have uK:=uK.trans hk
 have uz0:=uz0.kept hk
 have uz1:=hz
 clear hk hz
 have r:=RowL.alloc 39 uw1 [.int .i64 0,.bool false,.slice ua0 1 uc0,.int .i64 1,.bool false,.slice ua1 1 uc1]
 have k:=(Kept.refl uw1).alloc (.cells #[.int .i64 0,.bool false,.slice ua0 1 uc0,.int .i64 1,.bool false,.slice ua1 1 uc1] 39)
 obtain ⟨upa,hp⟩:∃ p,p = uw1.heap.size:=⟨_,rfl⟩
 --%ua
 go_wp2_with fail
 rw [← hp] at r ⊢
 generalize uw1.alloc (.cells #[.int .i64 0,.bool false,.slice ua0 1 uc0,.int .i64 1,.bool false,.slice ua1 1 uc1] 39) = uva at r k ⊢
 clear hp
 have ura:=csr_row2 (c1:=⟨0,⟨false,ua0,uc0,[2]⟩⟩) (c2:=⟨1,⟨false,ua1,uc1,[1]⟩⟩) r (uz0.kept k) (uz1.kept k)
 have uK:=uK.trans k
 clear r k uz0 uz1
 refine (cell1_any 0 1 1 uva rfl (by decide) (by decide)).mono ?_
 rintro e uw2 ⟨hk,ua2,uc2,rfl,hz⟩
 have uK:=uK.trans hk
 have ura:=csr_kept ura hk
 have uz2:=hz
 clear hk hz
 go_wp2_with fail
 refine (cell1_any 1 3 3 uw2 rfl (by decide) (by decide)).mono ?_
 rintro e uw3 ⟨hk,ua3,uc3,rfl,hz⟩
 have uK:=uK.trans hk
 have uz2:=uz2.kept hk
 have ura:=csr_kept ura hk
 have uz3:=hz
 clear hk hz
 have r:=RowL.alloc 39 uw3 [.int .i64 0,.bool false,.slice ua2 1 uc2,.int .i64 1,.bool false,.slice ua3 1 uc3]
 have k:=(Kept.refl uw3).alloc (.cells #[.int .i64 0,.bool false,.slice ua2 1 uc2,.int .i64 1,.bool false,.slice ua3 1 uc3] 39)
 obtain ⟨upb,hp⟩:∃ p,p = uw3.heap.size:=⟨_,rfl⟩
 have r2:=RowL.alloc 34 (uw3.alloc (.cells #[.int .i64 0,.bool false,.slice ua2 1 uc2,.int .i64 1,.bool false,.slice ua3 1 uc3] 39)) [.slice (some ⟨upa,0,none⟩) 2 2,.slice (some ⟨upb,0,none⟩) 2 2]
 have k2:=(Kept.refl (uw3.alloc (.cells #[.int .i64 0,.bool false,.slice ua2 1 uc2,.int .i64 1,.bool false,.slice ua3 1 uc3] 39))).alloc (.cells #[.slice (some ⟨upa,0,none⟩) 2 2,.slice (some ⟨upb,0,none⟩) 2 2] 34)
 have sz:=alloc_sz uw3 (.cells #[.int .i64 0,.bool false,.slice ua2 1 uc2,.int .i64 1,.bool false,.slice ua3 1 uc3] 39)
 rw [← hp] at r
 have HZ:=hid (And.intro hp sz)
 clear hp sz
 --%ub
 go_wp2_with fail
 obtain ⟨hp,sz⟩:=HZ.out
 rw [← hp] at sz ⊢
 rw [sz] at r2
 generalize uw3.alloc (.cells #[.int .i64 0,.bool false,.slice ua2 1 uc2,.int .i64 1,.bool false,.slice ua3 1 uc3] 39) = uvb at r k r2 k2 ⊢
 generalize uvb.alloc (.cells #[.slice (some ⟨upa,0,none⟩) 2 2,.slice (some ⟨upb,0,none⟩) 2 2] 34) = uv at r2 k2 ⊢
 clear hp sz HZ
 obtain ⟨upm,hpm⟩:∃ p,p = upb + 1:=⟨_,rfl⟩
 rw [← hpm] at r2 ⊢
 clear hpm
 have urb:=csr_row2 (c1:=⟨0,⟨false,ua2,uc2,[1]⟩⟩) (c2:=⟨1,⟨false,ua3,uc3,[3]⟩⟩) r (uz2.kept k) (uz3.kept k)
 have uM:=mxr_row2 (l1:=⟨some ⟨upa,0,none⟩,2,[⟨0,⟨false,ua0,uc0,[2]⟩⟩,⟨1,⟨false,ua1,uc1,[1]⟩⟩]⟩) (l2:=⟨some ⟨upb,0,none⟩,2,[⟨0,⟨false,ua2,uc2,[1]⟩⟩,⟨1,⟨false,ua3,uc3,[3]⟩⟩]⟩) r2 (csr_kept (csr_kept ura k) k2) (csr_kept urb k2)
 have uK:=(uK.trans k).trans k2
 clear r k r2 k2 uz2 uz3 ura urb
 --%A
 refine (new_any (some ⟨upm,0,none⟩) 2 2 32 (aL upa upb ua0 ua1 ua2 ua3 uc0 uc1 uc2 uc3) uv uM rfl (by intro l hl; simp only [aL,List.mem_cons,List.mem_nil_iff,or_false] at hl; rcases hl with rfl | rfl <;> exact (by decide:2≤1000000)) (by omega) (by omega) (by omega)).mono ?_
 rintro e w5 ⟨hk,⟨h1,_⟩ | ⟨_,h1,_⟩ | ⟨_,_,ps,er,hs,hf,hx⟩⟩
 ·
  rw [aL_ok] at h1; cases h1
 ·
  omega
 rw [aL_fac] at hs
 cases hs
 rcases hx with ⟨h1,_⟩ | ⟨_,fb,sa,sk,sc,Ss,rfl,hF⟩
 ·
  exact absurd rfl h1
 have hsk:sk = 2:=hF.len
 subst hsk
 have K5:=uK.trans hk
 have HF:=hid hf
 have HR:=hid hF
 clear hk hF hf uM uK
 --%B
 go_wp2_with fail
 refine (of1_any 5 5 w5 rfl (by decide) (by decide)).mono ?_
 rintro e w6 ⟨hk,a5,c5,rfl,hz5⟩
 have HR:=hid (HR.out.kept hk)
 have K6:=K5.trans hk
 clear hk K5
 go_wp2_with fail
 refine (of1_any 10 10 w6 rfl (by decide) (by decide)).mono ?_
 rintro e w7 ⟨hk,a6,c6,rfl,hz6⟩
 have HR:=hid (HR.out.kept hk)
 have hz5:=hz5.kept hk
 have K7:=K6.trans hk
 have r:=RowL.alloc 37 w7 [.bool false,.slice a5 1 c5,.bool false,.slice a6 1 c6]
 have k:=(Kept.refl w7).alloc (.cells #[.bool false,.slice a5 1 c5,.bool false,.slice a6 1 c6] 37)
 obtain ⟨pz,hp⟩:∃ p,p = w7.heap.size:=⟨_,rfl⟩
 rw [← hp] at r
 have HPz:=hid hp
 clear hk K6 hp
 --%C
 go_wp2_with fail
 rw [← HPz.out]
 generalize w7.alloc (.cells #[.bool false,.slice a5 1 c5,.bool false,.slice a6 1 c6] 37) = w8 at r k ⊢
 have hZ:=zsr_row2 (z1:=⟨false,a5,c5,[5]⟩) (z2:=⟨false,a6,c6,[10]⟩) r (hz5.kept k) (hz6.kept k)
 have HR:=hid (HR.out.kept k)
 have K8:=K7.trans k
 clear r k hz5 hz6 K7 HPz
 refine (solve_full uv.heap.size fb 2 2 (32:Int).toNat sa sc Ss (matF (aL upa upb ua0 ua1 ua2 ua3 uc0 uc1 uc2 uc3)) (zsB (aZ a5 a6 c5 c6)) (zsF (aZ a5 a6 c5 c6)) [(0,0),(1,1)] (some ⟨pz,0,none⟩) 2 w8 HR.out HF.out rfl aL_fac (by decide) (by omega) (by omega) (zsr_q hZ 2 2 rfl) (zsr_il hZ 2 2 rfl) (fun e => by cases e)).mono ?_
 rintro e w9 ⟨hk,⟨h1,_⟩ | ⟨_,h1,_⟩ | ⟨_,_,⟨⟨k,h1,h2⟩,_⟩ | ⟨_,⟨⟨j,h1,h2⟩,_⟩ | ⟨_,xo,xc,s,o,k,c,rfl,hX,hD⟩⟩⟩⟩
 ·
  exact absurd rfl h1
 ·
  rw [aZ_ok] at h1; cases h1
 ·
  have h9:false = true:=(aL_sd k h1).symm.trans h2
  cases h9
 ·
  have h9:false = true:=(aL_bkw j h1).symm.trans h2
  cases h9
 obtain ⟨xg,s0,o0,k0,c0,rfl,hg,v0,v1,y0,_⟩:=hX.at (show 0 < 2 by decide)
 obtain ⟨xg',s1,o1,k1,c1,e,_,v2,v3,y1,_⟩:=hX.at (show 1 < 2 by decide)
 cases e
 have y0:ZI w9 s0 (.slice o0 k0 c0) 5:=by rw [show (5:Int) = (if lastP (matF (aL upa upb ua0 ua1 ua2 ua3 uc0 uc1 uc2 uc3)) [(0,0),(1,1)] < 0 then -(bkA 2 (matF (aL upa upb ua0 ua1 ua2 ua3 uc0 uc1 uc2 uc3)) (zsF (aZ a5 a6 c5 c6)) [(0,0),(1,1)] 0) else bkA 2 (matF (aL upa upb ua0 ua1 ua2 ua3 uc0 uc1 uc2 uc3)) (zsF (aZ a5 a6 c5 c6)) [(0,0),(1,1)] 0) by rw [aL_last,aL_bk0]; rfl]; exact y0.zi
 have y1:ZI w9 s1 (.slice o1 k1 c1) 15:=by rw [show (15:Int) = (if lastP (matF (aL upa upb ua0 ua1 ua2 ua3 uc0 uc1 uc2 uc3)) [(0,0),(1,1)] < 0 then -(bkA 2 (matF (aL upa upb ua0 ua1 ua2 ua3 uc0 uc1 uc2 uc3)) (zsF (aZ a5 a6 c5 c6)) [(0,0),(1,1)] 1) else bkA 2 (matF (aL upa upb ua0 ua1 ua2 ua3 uc0 uc1 uc2 uc3)) (zsF (aZ a5 a6 c5 c6)) [(0,0),(1,1)] 1) by rw [aL_last,aL_bk1]; rfl]; exact y1.zi
 have yd:ZI w9 s (.slice o k c) 5:=by rw [show (5:Int) = (if lastP (matF (aL upa upb ua0 ua1 ua2 ua3 uc0 uc1 uc2 uc3)) [(0,0),(1,1)] < 0 then -(lastP (matF (aL upa upb ua0 ua1 ua2 ua3 uc0 uc1 uc2 uc3)) [(0,0),(1,1)]) else lastP (matF (aL upa upb ua0 ua1 ua2 ua3 uc0 uc1 uc2 uc3)) [(0,0),(1,1)]) by rw [aL_last]; rfl]; exact hD.zi
 have HR:=hid (HR.out.kept hk)
 have K9:=K8.trans hk
 have HY:=hid (And.intro y0 (And.intro y1 (And.intro yd (And.intro hg.2 (And.intro v0 (And.intro v1 (And.intro v2 v3)))))))
 clear hk hX hD y0 y1 yd hg v0 v1 v2 v3 hZ K8
 have rS:=RowL.alloc 54 w9 [.slice (some ⟨xg,0,none⟩) 2 xc,.bool s,.slice o k c]
 have kS:=(Kept.refl w9).alloc (.cells #[.slice (some ⟨xg,0,none⟩) 2 xc,.bool s,.slice o k c] 54)
 --%D
 go_upto_region 5 with fail
 obtain ⟨p4,hp4⟩:∃ p,p = w9.heap.size:=⟨_,rfl⟩
 rw [← hp4] at rS ⊢
 generalize w9.alloc (.cells #[.slice (some ⟨xg,0,none⟩) 2 xc,.bool s,.slice o k c] 54) = w10 at rS kS ⊢
 clear hp4
 have HT:=hid (fun (V:World) (K:Kept w10 V) => And.intro (rS.kept K) (And.intro (kS.trans K) (And.intro (K9.trans (kS.trans K)) (HR.out.kept (kS.trans K)))))
 clear rS kS K9 HR
 --%E
 go_wp2_with fail
 refine (cell1_any 0 1 1 w10 rfl (by decide) (by decide)).mono ?_
 rintro e tw0 ⟨hk,ta0,tc0,rfl,hz⟩
 have tK:=hk
 have tz0:=hz
 clear hk hz
 go_wp2_with fail
 refine (cell1_any 1 2 2 tw0 rfl (by decide) (by decide)).mono ?_
 rintro e tw1 ⟨hk,ta1,tc1,rfl,hz⟩
 have tK:=tK.trans hk
 have tz0:=tz0.kept hk
 have tz1:=hz
 clear hk hz
 have r:=RowL.alloc 39 tw1 [.int .i64 0,.bool false,.slice ta0 1 tc0,.int .i64 1,.bool false,.slice ta1 1 tc1]
 have k:=(Kept.refl tw1).alloc (.cells #[.int .i64 0,.bool false,.slice ta0 1 tc0,.int .i64 1,.bool false,.slice ta1 1 tc1] 39)
 obtain ⟨tpa,hp⟩:∃ p,p = tw1.heap.size:=⟨_,rfl⟩
 --%ta
 go_wp2_with fail
 rw [← hp] at r ⊢
 generalize tw1.alloc (.cells #[.int .i64 0,.bool false,.slice ta0 1 tc0,.int .i64 1,.bool false,.slice ta1 1 tc1] 39) = tva at r k ⊢
 clear hp
 have tra:=csr_row2 (c1:=⟨0,⟨false,ta0,tc0,[1]⟩⟩) (c2:=⟨1,⟨false,ta1,tc1,[2]⟩⟩) r (tz0.kept k) (tz1.kept k)
 have tK:=tK.trans k
 clear r k tz0 tz1
 refine (cell1_any 0 2 2 tva rfl (by decide) (by decide)).mono ?_
 rintro e tw2 ⟨hk,ta2,tc2,rfl,hz⟩
 have tK:=tK.trans hk
 have tra:=csr_kept tra hk
 have tz2:=hz
 clear hk hz
 go_wp2_with fail
 refine (cell1_any 1 4 4 tw2 rfl (by decide) (by decide)).mono ?_
 rintro e tw3 ⟨hk,ta3,tc3,rfl,hz⟩
 have tK:=tK.trans hk
 have tz2:=tz2.kept hk
 have tra:=csr_kept tra hk
 have tz3:=hz
 clear hk hz
 have r:=RowL.alloc 39 tw3 [.int .i64 0,.bool false,.slice ta2 1 tc2,.int .i64 1,.bool false,.slice ta3 1 tc3]
 have k:=(Kept.refl tw3).alloc (.cells #[.int .i64 0,.bool false,.slice ta2 1 tc2,.int .i64 1,.bool false,.slice ta3 1 tc3] 39)
 obtain ⟨tpb,hp⟩:∃ p,p = tw3.heap.size:=⟨_,rfl⟩
 have r2:=RowL.alloc 34 (tw3.alloc (.cells #[.int .i64 0,.bool false,.slice ta2 1 tc2,.int .i64 1,.bool false,.slice ta3 1 tc3] 39)) [.slice (some ⟨tpa,0,none⟩) 2 2,.slice (some ⟨tpb,0,none⟩) 2 2]
 have k2:=(Kept.refl (tw3.alloc (.cells #[.int .i64 0,.bool false,.slice ta2 1 tc2,.int .i64 1,.bool false,.slice ta3 1 tc3] 39))).alloc (.cells #[.slice (some ⟨tpa,0,none⟩) 2 2,.slice (some ⟨tpb,0,none⟩) 2 2] 34)
 have sz:=alloc_sz tw3 (.cells #[.int .i64 0,.bool false,.slice ta2 1 tc2,.int .i64 1,.bool false,.slice ta3 1 tc3] 39)
 rw [← hp] at r
 have HZ:=hid (And.intro hp sz)
 clear hp sz
 --%tb
 go_wp2_with fail
 obtain ⟨hp,sz⟩:=HZ.out
 rw [← hp] at sz ⊢
 rw [sz] at r2
 generalize tw3.alloc (.cells #[.int .i64 0,.bool false,.slice ta2 1 tc2,.int .i64 1,.bool false,.slice ta3 1 tc3] 39) = tvb at r k r2 k2 ⊢
 generalize tvb.alloc (.cells #[.slice (some ⟨tpa,0,none⟩) 2 2,.slice (some ⟨tpb,0,none⟩) 2 2] 34) = tv at r2 k2 ⊢
 clear hp sz HZ
 obtain ⟨tpm,hpm⟩:∃ p,p = tpb + 1:=⟨_,rfl⟩
 rw [← hpm] at r2 ⊢
 clear hpm
 have trb:=csr_row2 (c1:=⟨0,⟨false,ta2,tc2,[2]⟩⟩) (c2:=⟨1,⟨false,ta3,tc3,[4]⟩⟩) r (tz2.kept k) (tz3.kept k)
 have tM:=mxr_row2 (l1:=⟨some ⟨tpa,0,none⟩,2,[⟨0,⟨false,ta0,tc0,[1]⟩⟩,⟨1,⟨false,ta1,tc1,[2]⟩⟩]⟩) (l2:=⟨some ⟨tpb,0,none⟩,2,[⟨0,⟨false,ta2,tc2,[2]⟩⟩,⟨1,⟨false,ta3,tc3,[4]⟩⟩]⟩) r2 (csr_kept (csr_kept tra k) k2) (csr_kept trb k2)
 have tK:=(tK.trans k).trans k2
 clear r k r2 k2 tz2 tz3 tra trb
 --%F
 refine (new_any (some ⟨tpm,0,none⟩) 2 2 32 (aL2 tpa tpb ta0 ta1 ta2 ta3 tc0 tc1 tc2 tc3) tv tM rfl (by intro l hl; simp only [aL2,List.mem_cons,List.mem_nil_iff,or_false] at hl; rcases hl with rfl | rfl <;> exact (by decide:2≤1000000)) (by omega) (by omega) (by omega)).mono ?_
 rintro e w11 ⟨hk,⟨h1,_⟩ | ⟨_,h1,_⟩ | ⟨_,_,ps,er,hs,_,hx⟩⟩
 ·
  rw [aL2_ok] at h1; cases h1
 ·
  omega
 rw [aL2_fac] at hs
 cases hs
 rcases hx with ⟨_,rfl⟩ | ⟨h1,_⟩
 rotate_left
 ·
  exact absurd h1 (by decide)
 have HK:=hid (tK.trans hk)
 clear hk tM tK
 --%G
 go_upto_region 6 with fail
 have KT:Kept w10 w11.drew:=HK.out.drew
 have sS:=hid (fun (V:World) (K:Kept w10 V) => show (fun w':World => w'.cell? ⟨p4,0,none⟩ = some (.slice (some ⟨xg,0,none⟩) 2 xc)∧w'.cell? ⟨p4,1,none⟩ = some (.bool s)∧w'.cell? ⟨p4,2,none⟩ = some (.slice o k c)∧w'.cell? ⟨xg,0,none⟩ = some (.bool s0)∧w'.cell? ⟨xg,1,none⟩ = some (.slice o0 k0 c0)∧w'.cell? ⟨xg,2,none⟩ = some (.bool s1)∧w'.cell? ⟨xg,3,none⟩ = some (.slice o1 k1 c1)) V from ⟨(HT.out V K).1.cell 0 _ rfl,(HT.out V K).1.cell 1 _ rfl,(HT.out V K).1.cell 2 _ rfl,((HT.out V K).2.1.cell (p:=⟨xg,0,none⟩) HY.out.2.2.2.1).trans HY.out.2.2.2.2.1,((HT.out V K).2.1.cell (p:=⟨xg,1,none⟩) HY.out.2.2.2.1).trans HY.out.2.2.2.2.2.1,((HT.out V K).2.1.cell (p:=⟨xg,2,none⟩) HY.out.2.2.2.1).trans HY.out.2.2.2.2.2.2.1,((HT.out V K).2.1.cell (p:=⟨xg,3,none⟩) HY.out.2.2.2.1).trans HY.out.2.2.2.2.2.2.2⟩)
 refine wp_region_held_drew (S:=fun w' => w'.cell? ⟨p4,0,none⟩ = some (.slice (some ⟨xg,0,none⟩) 2 xc)∧w'.cell? ⟨p4,1,none⟩ = some (.bool s)∧w'.cell? ⟨p4,2,none⟩ = some (.slice o k c)∧w'.cell? ⟨xg,0,none⟩ = some (.bool s0)∧w'.cell? ⟨xg,1,none⟩ = some (.slice o0 k0 c0)∧w'.cell? ⟨xg,2,none⟩ = some (.bool s1)∧w'.cell? ⟨xg,3,none⟩ = some (.slice o1 k1 c1)) (by kernel_rfl) (sS.out _ KT) (fun hHeld => ?_)
 generalize w11.drew = V0 at KT hHeld ⊢
 refine tk 0 hHeld ?_
 refine tk 1 hHeld ?_
 refine tk 2 hHeld ?_
 refine tk 3 hHeld ?_
 refine tk 4 hHeld ?_
 refine tk 5 hHeld ?_
 refine tk 6 hHeld ?_
 refine tk 7 hHeld ?_
 refine tk 8 hHeld ?_
 refine tk 9 hHeld ?_
 refine tk 10 hHeld ?_
 refine tk 11 hHeld ?_
 refine tk 12 hHeld ?_
 refine rdy 13 fun K hK => ?_
 go_simp
 refine (of1_any 5 5 V0 rfl (by decide) (by decide)).mono ?_
 rintro e V1 ⟨hk,f1a,f1c,rfl,f1z⟩
 refine hK.out _ _ (sS.out _ (KT.trans hk)) (fun hHeld => ?_)
 clear hK K
 have KT:=KT.trans hk
 clear hk
 refine rdy 14 fun K hK => ?_
 go_simp
 refine (same_eq14 s0 false o0 f1a k0 c0 1 f1c _ _ V1 (HY.out.1.kept (HT.out _ KT).2.1) (ze_zi f1z (by decide) (by decide)) rfl).mono ?_
 rintro e V2 ⟨hk,rfl⟩
 refine hK.out _ _ (sS.out _ (KT.trans hk)) (fun hHeld => ?_)
 clear hK K
 have KT:=KT.trans hk
 clear hk
 refine tk 15 hHeld ?_
 refine tk 16 hHeld ?_
 refine tk 17 hHeld ?_
 refine tk 18 hHeld ?_
 refine tk 19 hHeld ?_
 refine tk 20 hHeld ?_
 refine rdy 21 fun K hK => ?_
 go_simp
 refine (of1_any 15 15 V2 rfl (by decide) (by decide)).mono ?_
 rintro e V3 ⟨hk,f2a,f2c,rfl,f2z⟩
 refine hK.out _ _ (sS.out _ (KT.trans hk)) (fun hHeld => ?_)
 clear hK K
 have KT:=KT.trans hk
 clear hk
 refine rdy 22 fun K hK => ?_
 go_simp
 refine (same_eq14 s1 false o1 f2a k1 c1 1 f2c _ _ V3 (HY.out.2.1.kept (HT.out _ KT).2.1) (ze_zi f2z (by decide) (by decide)) rfl).mono ?_
 rintro e V4 ⟨hk,rfl⟩
 refine hK.out _ _ (sS.out _ (KT.trans hk)) (fun hHeld => ?_)
 clear hK K
 have KT:=KT.trans hk
 clear hk
 refine tk 23 hHeld ?_
 refine tk 24 hHeld ?_
 refine tk 25 hHeld ?_
 refine tk 26 hHeld ?_
 refine rdy 27 fun K hK => ?_
 go_simp
 refine (of1_any 5 5 V4 rfl (by decide) (by decide)).mono ?_
 rintro e V5 ⟨hk,f3a,f3c,rfl,f3z⟩
 refine hK.out _ _ (sS.out _ (KT.trans hk)) (fun hHeld => ?_)
 clear hK K
 have KT:=KT.trans hk
 clear hk
 refine rdy 28 fun K hK => ?_
 go_simp
 refine (same_eq14 s false o f3a k c 1 f3c _ _ V5 (HY.out.2.2.1.kept (HT.out _ KT).2.1) (ze_zi f3z (by decide) (by decide)) rfl).mono ?_
 rintro e V6 ⟨hk,rfl⟩
 refine hK.out _ _ (sS.out _ (KT.trans hk)) (fun hHeld => ?_)
 clear hK K
 have KT:=KT.trans hk
 clear hk
 refine tk 29 hHeld ?_
 refine tk 30 hHeld ?_
 refine tk 31 hHeld ?_
 refine rdy 32 fun K hK => ?_
 go_simp
 refine (det_any uv.heap.size fb 2 (32:Int).toNat sa 2 sc Ss (matF (aL upa upb ua0 ua1 ua2 ua3 uc0 uc1 uc2 uc3)) [(0,0),(1,1)] V6 (HT.out _ KT).2.2.2 (Ba.last_ne HF.out.piv) (by omega)).mono ?_
 rintro e V7 ⟨hk,sd,od,kd,cd,rfl,hd⟩
 refine hK.out _ _ (sS.out _ (KT.trans hk)) (fun hHeld => ?_)
 clear hK K
 have KT:=KT.trans hk
 have hd:=hd.zi
 clear hk
 refine rdy 33 fun K hK => ?_
 go_simp
 refine (of1_any 5 5 V7 rfl (by decide) (by decide)).mono ?_
 rintro e V8 ⟨hk,f4a,f4c,rfl,f4z⟩
 refine hK.out _ _ (sS.out _ (KT.trans hk)) (fun hHeld => ?_)
 clear hK K
 have KT:=KT.trans hk
 have hd:=hd.kept hk
 clear hk
 refine rdy 34 fun K hK => ?_
 go_simp
 refine (same_eq14 sd false od f4a kd cd 1 f4c _ _ V8 (by have h9:=hd; rw [aL_det] at h9; exact h9) (ze_zi f4z (by decide) (by decide)) rfl).mono ?_
 rintro e V9 ⟨hk,rfl⟩
 refine hK.out _ _ (sS.out _ (KT.trans hk)) (fun hHeld => ?_)
 clear hK K
 have KT:=KT.trans hk
 clear hk
 refine tk 35 hHeld ?_
 refine tk 36 hHeld ?_
 refine tk 37 hHeld ?_
 refine tk 38 hHeld ?_
 refine tk 39 hHeld ?_
 refine tk 40 hHeld ?_
 refine tk 41 hHeld ?_
 refine tk 42 hHeld ?_
 refine tk 43 hHeld ?_
 refine tk 44 hHeld ?_
 refine tk 45 hHeld ?_
 refine tk 46 hHeld ?_
 refine tk 47 hHeld ?_
 refine tk 48 hHeld ?_
 refine _root_.Go.Proofs.YtdcgdpbgnijnpaaGreat.dn ?_
 --%H
 go_wp2_with fail
 go_ret
 exact ⟨(HT.out _ KT).2.2.1,rfl⟩
end Bp
end Go.Proofs.YtdcgdpbgnijnpaaGreat
