/- shuntref14.Same, Solve. shuntlaw14.BareissTells: its end, from the first Solve on. (mk_ft9.py) -/
import Derived.Test.YtdcgdpbgnijnpaaGreatFt12
import Derived.Test.YtdcgdpbgnijnpaaGreatFt13
import Derived.Test.YtdcgdpbgnijnpaaGreatGay
import Derived.Test.YtdcgdpbgnijnpaaGreatGan
import Derived.Test.YtdcgdpbgnijnpaaGreatGax
import Derived.Test.YtdcgdpbgnijnpaaGreatGaz
namespace Go.Proofs.YtdcgdpbgnijnpaaGreat
open Go.RowKit
open V (RowL RowL.alloc RowL.lt RowL.cell RowL.fz RowL.kept RowL.block RowL.set RowL.far)
open Sp (hid own_kept own_keptK own_row own_shape info_parts)
open Ba (stg lastP pivs leftR leftC wideZ wideM nz facGo facS Fits)
open Bm (ZI ZI.kept ZI.of MxR ZsR mxr_at mxr_kept zsr_at zsr_kept mOk)
open X (zk zr zl zd region_z)
open Sy
namespace Bp
set_option maxRecDepth 100000 in
set_option maxHeartbeats 16000000 in
theorem sames14_any (ao bo:Option Addr) (n ca cb:Nat) (zs:Nat→Int) (s1 s2:Bool) (o1 o2:Option Addr) (k1 k2 c1 c2:Nat) (z:Int) (w:World) (ha:IL zs w (.slice ao n ca) n) (hb:IL zs w (.slice bo n cb) n) (h1:ZI w s1 (.slice o1 k1 c1) z) (h2:ZI w s2 (.slice o2 k2 c2) z) (hn:n≤1000) :
  Calls Tryz.prog 15 #[.agg #[.slice ao n ca,.bool s1,.slice o1 k1 c1],.agg #[.slice bo n cb,.bool s2,.slice o2 k2 c2]] w fun e w' => Kept w w'∧e = .returned (.bool true):=by
 have HX:=hid (And.intro ha (And.intro hb (And.intro h1 h2)))
 clear ha hb h1 h2
 have r1:=RowL.alloc 54 w [.slice ao n ca,.bool s1,.slice o1 k1 c1]
 have k1':=(Kept.refl w).alloc (.cells #[.slice ao n ca,.bool s1,.slice o1 k1 c1] 54)
 obtain ⟨wa,hwa⟩:∃ W,W = w.alloc (.cells #[.slice ao n ca,.bool s1,.slice o1 k1 c1] 54):=⟨_,rfl⟩
 have hsz:wa.heap.size = w.heap.size + 1:=by rw [hwa,alloc_sz]
 have r2:=RowL.alloc 54 wa [.slice bo n cb,.bool s2,.slice o2 k2 c2]
 have k2':=(Kept.refl wa).alloc (.cells #[.slice bo n cb,.bool s2,.slice o2 k2 c2] 54)
 rw [← hwa] at k1'
 have r1:RowL 54 wa w.heap.size [.slice ao n ca,.bool s1,.slice o1 k1 c1]:=by rw [hwa]; exact r1
 obtain ⟨px,hpx⟩:∃ p,p = w.heap.size:=⟨_,rfl⟩
 obtain ⟨pR,hpR⟩:∃ p,p = w.heap.size + 1:=⟨_,rfl⟩
 rw [hsz,← hpR] at r2
 rw [← hpx] at r1
 go_enter Tryz.func15,Tryz.ntmps15
 --%A
 go_upto_region 1 with fail
 rw [← hpR,← hpx,← hwa]
 have r1:=r1.kept k2'
 clear hpR hpx hwa
 change RowL 54 (wa.alloc (.cells #[.slice bo n cb,.bool s2,.slice o2 k2 c2] 54)) pR _ at r2
 change RowL 54 (wa.alloc (.cells #[.slice bo n cb,.bool s2,.slice o2 k2 c2] 54)) px _ at r1
 have kW:=k1'.trans k2'
 generalize wa.alloc (.cells #[.slice bo n cb,.bool s2,.slice o2 k2 c2] 54) = W0 at r1 r2 kW ⊢
 have HB:=hid (And.intro kW (And.intro r1 r2))
 have y0:=r1.cell 0 _ rfl
 have y1:=r1.cell 1 _ rfl
 have y2:=r1.cell 2 _ rfl
 have z0:=r2.cell 0 _ rfl
 have z1:=r2.cell 1 _ rfl
 have z2:=r2.cell 2 _ rfl
 have hsm:=Bm.same_zi s1 s2 (.slice o1 k1 c1) (.slice o2 k2 c2) z z W0 (HX.out.2.2.1.kept kW) (HX.out.2.2.2.kept kW)
 rw [decide_eq_true (rfl:z = z)] at hsm
 clear k1' k2' r1 r2 kW hsz
 --%B
 go_wp2_with fail
 refine hsm.mono ?_
 rintro e w1 ⟨hk1,rfl⟩
 have HK1:=hid hk1
 clear hsm hk1 y0 y1 y2 z0 z1 z2
 --%C
 go_wp2_with fail
 go_loopw [5] (fun v5 wr => ∃ i:Nat,i≤n∧v5 = .int .i64 (i:Int)∧Hid (Kept W0 wr)) (fun v5 _ => n - (intOf v5).toNat)
 case atStart => exact ⟨0,Nat.zero_le _,rfl,HK1.out⟩
 case round =>
  obtain ⟨i,hin,rfl,H⟩:=hrel
  generalize wr = w2 at H ⊢
  have y0:=(HB.out.2.1.kept H.out).cell 0 _ rfl
  have z0:=(HB.out.2.2.kept H.out).cell 0 _ rfl
  by_cases hit:i < n
  ·
   have hii:(i:Int) < (n:Int):=by omega
   have hi0:(0:Int)≤(i:Int):=by omega
   have kW:=HB.out.1.trans H.out
   obtain ⟨ao',ca',ea,hax⟩:=HX.out.1
   cases ea
   obtain ⟨bo',cb',eb,hbx⟩:=HX.out.2.1
   cases eb
   obtain ⟨ba,offa,rfl,hba,hac⟩:=hax (by omega)
   obtain ⟨bb,offb,rfl,hbb,hbc⟩:=hbx (by omega)
   obtain ⟨t1,p1,m1,d1,a1,a2,a3⟩:=hac i hit
   obtain ⟨t2,p2,m2,d2,b1,b2,b3⟩:=hbc i hit
   have sS:=hid (fun (V:World) (K:Kept w2 V) => show (fun w':World => w'.cell? ⟨px,0,none⟩ = some (.slice (some ⟨ba,offa,none⟩) n ca)∧w'.cell? ⟨ba,offa + i * 2,none⟩ = some (.bool t1)∧w'.cell? ⟨ba,offa + i * 2 + 1,none⟩ = some (.slice p1 m1 d1)∧w'.cell? ⟨pR,0,none⟩ = some (.slice (some ⟨bb,offb,none⟩) n cb)∧w'.cell? ⟨bb,offb + i * 2,none⟩ = some (.bool t2)∧w'.cell? ⟨bb,offb + i * 2 + 1,none⟩ = some (.slice p2 m2 d2)) V from ⟨(HB.out.2.1.kept (H.out.trans K)).cell 0 _ rfl,(Below.cell (kW.trans K) (p:=⟨ba,offa + i * 2,none⟩) hba).trans a1,(Below.cell (kW.trans K) (p:=⟨ba,offa + i * 2 + 1,none⟩) hba).trans a2,(HB.out.2.2.kept (H.out.trans K)).cell 0 _ rfl,(Below.cell (kW.trans K) (p:=⟨bb,offb + i * 2,none⟩) hbb).trans b1,(Below.cell (kW.trans K) (p:=⟨bb,offb + i * 2 + 1,none⟩) hbb).trans b2⟩)
   have KT:Kept w2 w2.drew:=(Kept.refl _).drew
   have hsm:=Bm.same_zi t1 t2 (.slice p1 m1 d1) (.slice p2 m2 d2) (zs i) (zs i) w2.drew (a3.kept (kW.trans KT)) (b3.kept (kW.trans KT))
   rw [decide_eq_true (rfl:zs i = zs i)] at hsm
   clear hax hbx hac hbc a3 b3 a1 a2 b1 b2 kW
   --%D
   go_upto_region 6 with fail
   clear y0 z0
   refine wp_region_held_drew (S:=fun w' => w'.cell? ⟨px,0,none⟩ = some (.slice (some ⟨ba,offa,none⟩) n ca)∧w'.cell? ⟨ba,offa + i * 2,none⟩ = some (.bool t1)∧w'.cell? ⟨ba,offa + i * 2 + 1,none⟩ = some (.slice p1 m1 d1)∧w'.cell? ⟨pR,0,none⟩ = some (.slice (some ⟨bb,offb,none⟩) n cb)∧w'.cell? ⟨bb,offb + i * 2,none⟩ = some (.bool t2)∧w'.cell? ⟨bb,offb + i * 2 + 1,none⟩ = some (.slice p2 m2 d2)) (by kernel_rfl) (sS.out _ KT) (fun hHeld => ?_)
   generalize w2.drew = V0 at KT hHeld hsm ⊢
   refine wk 0 hHeld ?_
   refine wk 1 hHeld ?_
   refine wk 2 hHeld ?_
   refine wk 3 hHeld ?_
   refine wk 4 hHeld ?_
   refine wk 5 hHeld ?_
   refine wk 6 hHeld ?_
   refine wk 7 hHeld ?_
   refine wk 8 hHeld ?_
   refine wk 9 hHeld ?_
   refine wpAnyH_ready (rs:=[10]) (by kernel_rfl) (by simp) ?_
   refine AllReadyH.cons rfl (fun K9 hK => ?_) AllReadyH.nil
   go_simp
   refine hsm.mono ?_
   rintro e w3 ⟨hk3,rfl⟩
   refine hK.out _ _ (sS.out _ (KT.trans hk3)) (fun hHeld => ?_)
   have HK3:=hid (H.out.trans (KT.trans hk3))
   clear hsm hk3 hK KT
   refine wk 11 hHeld ?_
   refine wpAnyH_done (by kernel_rfl) ?_ _
   --%E
   go_wp2_with fail
   go_roundw
   case rel => exact ⟨i + 1,by omega,by go_num,HK3.out⟩
   case measure => show n - ((i:Int) + 1).toNat < n - (i:Int).toNat; omega
  ·
   have hii:¬ (i:Int) < (n:Int):=by omega
   obtain rfl:i = n:=by omega
   --%F
   go_wp2_with fail
   go_ret
   exact ⟨HB.out.1.trans H.out,rfl⟩
theorem w32_72:W32 < M.W72:=by unfold W32 M.W72; decide
set_option maxRecDepth 100000 in
set_option maxHeartbeats 16000000 in
theorem solve14_any (lo bo:Option Addr) (n m lc bc lm:Nat) (M:Nat→Nat→Int) (Bs:List ZE) (ps:List (Nat × Nat)) (w:World) (h:SgR (fun _ => False) n M ps w (.slice lo n lc)) (hb:ZsR w bo Bs) (hm:m = Bs.length) (hm1:m≤61) (hf:Fits n M ps) (hl:ps.length = n) (hs:facS n lm M = (ps,0)) (hL:lm≤32) (hn:n≤48) :
  Calls Tryz.prog 14 #[.slice lo n lc,.slice bo m bc,.int .i64 (lm:Int)] w (SolIs w n m lm (zsB Bs) M (zsF Bs) ps (bkA n M (zsF Bs) ps)):=by
 obtain ⟨Q,hQ⟩:∃ Q,Q = SolIs w n m lm (zsB Bs) M (zsF Bs) ps (bkA n M (zsF Bs) ps):=⟨_,rfl⟩
 rw [← hQ]
 have HQ:=hid hQ
 have HF:=hid (And.intro hf (And.intro hl (And.intro hs hL)))
 have HX:=hid (And.intro h (And.intro hb hm))
 clear hQ hf hl hs hL h hb hm
 have rR:=RowL.alloc 54 w [.slice none 0 0,.bool false,.slice none 0 0]
 have kR:=(Kept.refl w).alloc (.cells #[.slice none 0 0,.bool false,.slice none 0 0] 54)
 obtain ⟨pR,hpR⟩:∃ p,p = w.heap.size:=⟨_,rfl⟩
 rw [← hpR] at rR
 have HP:=hid (show w.heap.size≤pR by rw [hpR]; exact Nat.le_refl _)
 go_enter Tryz.func14,Tryz.ntmps14
 --%A
 go_upto_region 1 with fail
 rw [← hpR]
 clear hpR
 change RowL 54 (w.alloc (.cells #[.slice none 0 0,.bool false,.slice none 0 0] 54)) pR _ at rR
 generalize w.alloc (.cells #[.slice none 0 0,.bool false,.slice none 0 0] 54) = W0 at rR kR ⊢
 have HR:=hid (And.intro (fun (V:World) (K:Kept W0 V) => rR.kept K) kR)
 have HZ:=hid (fun (V:World) (K:Kept W0 V) => sol_kept (kR.trans K) HP.out (rR.kept K) (.slice none 0 0) (.bool false) (.slice none 0 0))
 clear rR kR
 by_cases hmn:¬ m = n
 ·
  have e1:¬ (m:Int) = (n:Int):=by omega
  have HE:=hid (HZ.out W0 (Kept.refl _))
  have d0:=(HR.out.1 W0 (Kept.refl _)).cell 0 _ rfl
  have d1:=(HR.out.1 W0 (Kept.refl _)).cell 1 _ rfl
  have d2:=(HR.out.1 W0 (Kept.refl _)).cell 2 _ rfl
  have f0:=(HR.out.1 W0 (Kept.refl _)).fz 0
  have f1:=(HR.out.1 W0 (Kept.refl _)).fz 1
  have f2:=(HR.out.1 W0 (Kept.refl _)).fz 2
  --%B
  go_wp2_with fail
  refine bodyPost_ret (v:=.tuple #[.agg #[.slice none 0 0,.bool false,.slice none 0 0],.int .i64 5]) (by simp [results,Tryz.results14,go_sem,d0,d1,d2]) rfl ?_
  rw [HQ.out]
  exact ⟨HE.out,.inl ⟨hmn,rfl⟩⟩
 have hmn:m = n:=Classical.not_not.1 hmn
 have e1:(m:Int) = (n:Int):=by omega
 have HMN:=hid hmn
 clear hmn
 --%C
 go_wp2_with fail
 go_loopw [8] (fun v8 wr => ∃ i:Nat,i≤m∧v8 = .int .i64 (i:Int)∧Hid (Kept W0 wr∧∀ j,j < i→zsB Bs j = true)) (fun v8 _ => m - (intOf v8).toNat)
 case atStart => exact ⟨0,Nat.zero_le _,rfl,Kept.refl _,fun j h => absurd h (Nat.not_lt_zero j)⟩
 case round =>
  obtain ⟨i,hin,rfl,H⟩:=hrel
  generalize wr = w4 at H ⊢
  by_cases hit:i < m
  ·
   have hii:(i:Int) < (m:Int):=by omega
   have hi0:(0:Int)≤(i:Int):=by omega
   have hiB:i < Bs.length:=by have:=HX.out.2.2; omega
   obtain ⟨b1,o1,m1,zo1,zc1,zl1,rfl,hB1,hcb,okb⟩:=zsr_at (zsr_kept HX.out.2.1 (HR.out.2.trans H.out.1)) hiB
   have c1:=(hcb w4 (Kept.refl _)).1
   have c2':=(hcb w4 (Kept.refl _)).2
   obtain ⟨zk,hzk⟩:∃ l,l = zl1.length:=⟨_,rfl⟩
   rw [← hzk] at c2'
   have hrg:=Bm.rgt_any ⟨m1,zo1,zc1,zl1⟩ w4 okb
   have hrg:Calls Tryz.prog 38 #[.agg #[.bool m1,.slice zo1 zk zc1]] w4 fun e w' => Kept w4 w'∧e = .returned (.bool (ZE.right ⟨m1,zo1,zc1,zl1⟩)):=by rw [hzk]; exact hrg
   have hzb:zsB Bs i = ZE.right ⟨m1,zo1,zc1,zl1⟩:=by unfold zsB; rw [getD_in hiB,hB1]
   obtain ⟨rt,hrt⟩:∃ b,b = ZE.right ⟨m1,zo1,zc1,zl1⟩:=⟨_,rfl⟩
   rw [← hrt] at hrg hzb
   have HRt:=hid hzb
   clear hcb okb hB1 hzk hrt hzb
   --%D
   go_wp2_with fail
   refine hrg.mono ?_
   rintro e w6 ⟨hk,rfl⟩
   have H6:=hid (H.out.1.trans hk)
   clear hk hrg c1 c2'
   cases rt with
   | false =>
    have HE:=hid (HZ.out w6 H6.out)
    have d0:=(HR.out.1 w6 H6.out).cell 0 _ rfl
    have d1:=(HR.out.1 w6 H6.out).cell 1 _ rfl
    have d2:=(HR.out.1 w6 H6.out).cell 2 _ rfl
    have f0:=(HR.out.1 w6 H6.out).fz 0
    have f1:=(HR.out.1 w6 H6.out).fz 1
    have f2:=(HR.out.1 w6 H6.out).fz 2
    --%E
    go_wp2_with fail
    refine bodyPost_ret (v:=.tuple #[.agg #[.slice none 0 0,.bool false,.slice none 0 0],.int .i64 10]) (by simp [results,Tryz.results14,go_sem,d0,d1,d2]) rfl ?_
    rw [HQ.out]
    exact ⟨HE.out,.inr (.inl ⟨HMN.out,anyB_ex.2 ⟨i,hit,by rw [HRt.out]; rfl⟩,rfl⟩)⟩
   | true =>
    --%F
    go_wp2_with fail
    go_roundw
    case rel => exact ⟨i + 1,by omega,by go_num,H6.out,fun j hj => by
      by_cases e:j = i
      ·
       rw [e]; exact HRt.out
      ·
       exact H.out.2 j (by omega)⟩
    case measure => show m - ((i:Int) + 1).toNat < m - (i:Int).toNat; omega
  ·
   have hii:¬ (i:Int) < (m:Int):=by omega
   have hall:∀ j,j < m→zsB Bs j = true:=fun j hj => H.out.2 j (by omega)
   have htk:=take14_any bo m bc Bs w4 (zsr_kept HX.out.2.1 (HR.out.2.trans H.out.1)) HX.out.2.2 hm1 hall
   have hno:anyB (fun j => !zsB Bs j) m = false:=by
    cases e:anyB (fun j => !zsB Bs j) m with
    | false => rfl
    | true =>
     obtain ⟨j,hj,h⟩:=anyB_ex.1 e
     rw [hall j hj] at h
     cases h
   have HNo:=hid hno
   clear hall hno
   --%G
   go_wp2_with fail
   refine htk.mono ?_
   rintro e w5 ⟨hk5,to',tc,rfl,htx⟩
   have hsv:=solved14_any lo to' n lc tc lm M (zsF Bs) ps w5 (HX.out.1.kept (HR.out.2.trans (H.out.1.trans hk5))) (by have:=HMN.out; subst this; exact htx) HF.out.1 HF.out.2.1 HF.out.2.2.1 HF.out.2.2.2 hn
   rw [show Value.slice to' n tc = Value.slice to' m tc by rw [HMN.out]] at hsv
   have HK5:=hid (H.out.1.trans hk5)
   clear htk hk5 htx
   --%H
   go_wp2_with fail
   refine hsv.mono ?_
   rintro e w6 ⟨hk6,hcase⟩
   have HK6:=hid (HK5.out.trans hk6)
   clear hsv hk6
   rcases hcase with ⟨hw,rfl⟩ | ⟨hn1,hn2,xo,xc,s,o,k,c,rfl,hxr,hdn,hkl⟩
   ·
    have HW:=hid hw
    clear hw
    have kE:=(Kept.refl w6).alloc (.cells #[.slice none 0 0,.bool false,.slice none 0 0] 94)
    have K6:=HK6.out.trans kE
    have HE:=hid (HZ.out _ K6)
    have d0:=(HR.out.1 _ K6).cell 0 _ rfl
    have d1:=(HR.out.1 _ K6).cell 1 _ rfl
    have d2:=(HR.out.1 _ K6).cell 2 _ rfl
    have f0:=(HR.out.1 _ K6).fz 0
    have f1:=(HR.out.1 _ K6).fz 1
    have f2:=(HR.out.1 _ K6).fz 2
    clear kE K6
    unfold exE
    --%I
    go_wp2_with fail
    refine bodyPost_ret (v:=.tuple #[.agg #[.slice none 0 0,.bool false,.slice none 0 0],.int .i64 13]) (by simp [results,Tryz.results14,go_sem,d0,d1,d2]) rfl ?_
    rw [HQ.out]
    refine ⟨HE.out,.inr (.inr ⟨HMN.out,HNo.out,?_⟩)⟩
    rcases HW.out with h | h
    ·
     exact .inl ⟨h,rfl⟩
    ·
     by_cases hs:∃ k,k≤n∧sdW n lm M (zsF Bs) ps k = true
     ·
      exact .inl ⟨hs,rfl⟩
     ·
      exact .inr ⟨fun k hk => by
       cases e:sdW n lm M (zsF Bs) ps k with
       | false => rfl
       | true => exact absurd ⟨k,hk,e⟩ hs,.inl ⟨h,rfl⟩⟩
   ·
    have hXl:∀ j,j < n→(if lastP M ps < 0 then -bkA n M (zsF Bs) ps j else bkA n M (zsF Bs) ps j).natAbs < _root_.Go.Proofs.YtdcgdpbgnijnpaaGreat.M.W72:=fun j hj => by
     have h1:=not_wide_32 HF.out.2.2.2 (hn2 j hj)
     have h2:=w32_72
     split
     ·
      rw [Int.natAbs_neg]; omega
     ·
      omega
    have hDl:(if lastP M ps < 0 then -lastP M ps else lastP M ps).natAbs < _root_.Go.Proofs.YtdcgdpbgnijnpaaGreat.M.W72:=by
     have h1:(lastP M ps).natAbs < W32:=by
      by_cases h0:0 < n
      ·
       exact last_lim HF.out.1 HF.out.2.1 HF.out.2.2.1 HF.out.2.2.2 h0
      ·
       have:ps = []:=List.eq_nil_of_length_eq_zero (by have:=HF.out.2.1; omega)
       subst this
       exact show (1:Int).natAbs < W32 by unfold W32; decide
     have h2:=w32_72
     split
     ·
      rw [Int.natAbs_neg]; omega
     ·
      omega
    have HC:=hid (And.intro hn1 hn2)
    have rE:=RowL.alloc 94 w6 [.slice xo n xc,.bool s,.slice o k c]
    have kE:=(Kept.refl w6).alloc (.cells #[.slice xo n xc,.bool s,.slice o k c] 94)
    have hgv:=give14_any xo n xc s o k c _ _ (w6.alloc (.cells #[.slice xo n xc,.bool s,.slice o k c] 94)) (hxr.kept kE) (hdn.kept kE) hkl hXl hDl hn
    have x0:=rE.cell 0 _ rfl
    have x1:=rE.cell 1 _ rfl
    have x2:=rE.cell 2 _ rfl
    have K6:=HK6.out.trans kE
    have HK7:=hid K6
    clear hn1 hn2 hxr hdn hXl hDl kE rE K6
    --%J
    go_wp2_with fail
    refine hgv.mono ?_
    rintro e w7 ⟨hk7,yo,yc,s',o',k',c',rfl,hX,hD⟩
    have K7:=HK7.out.trans hk7
    have r7:=HR.out.1 w7 K7
    have d0:=r7.cell 0 _ rfl
    have d1:=r7.cell 1 _ rfl
    have d2:=r7.cell 2 _ rfl
    have f0:=r7.fz 0
    have f1:=r7.fz 1
    have f2:=r7.fz 2
    obtain ⟨q1,q2⟩:=sol_put r7 (.slice yo n yc) (.bool s') (.slice o' k' c')
    have hsz:=HR.out.2.size
    have hsz2:=HK7.out.size
    have HE:=hid (show SolIs w n m lm (zsB Bs) M (zsF Bs) ps (bkA n M (zsF Bs) ps) (.returned (.tuple #[.agg #[.slice yo n yc,.bool s',.slice o' k' c'],.int .i64 0])) (((w7.setCell ⟨pR,0,none⟩ (.slice yo n yc)).setCell ⟨pR,1,none⟩ (.bool s')).setCell ⟨pR,2,none⟩ (.slice o' k' c')) from
     ⟨sol_kept (HR.out.2.trans K7) HP.out r7 _ _ _,.inr (.inr ⟨HMN.out,HNo.out,.inr ⟨HC.out.1,.inr ⟨HC.out.2,yo,yc,s',o',k',c',rfl,(hX.kx (EN.keeps _) q1 (q2 _ (by decide)) (q2 _ (by decide))).mono (by omega),(hD.kx q1 (q2 _ (by decide))).mono (by omega)⟩⟩⟩)⟩)
    clear hgv hk7 hX hD r7 q1 q2 K7 x0 x1 x2 hsz hsz2
    --%K
    go_wp2_with fail
    refine bodyPost_ret (v:=.tuple #[.agg #[.slice yo n yc,.bool s',.slice o' k' c'],.int .i64 0]) (by simp [results,Tryz.results14,go_sem,d0,d1,d2]) rfl ?_
    rw [HQ.out]
    exact HE.out
end Bp
end Go.Proofs.YtdcgdpbgnijnpaaGreat

namespace Go.Proofs.YtdcgdpbgnijnpaaGreat
open Go.RowKit
open V (RowL RowL.alloc RowL.lt RowL.cell RowL.fz RowL.kept RowL.block RowL.set RowL.far)
open Sp (hid own_kept own_keptK own_row own_shape info_parts)
open X (zk zr zl zd region_z anyZ_ready AllZ AllZ.cons AllZ.nil)
open Ba (stg lastP pivs leftR leftC wideZ wideM nz facGo facS Fits leftR_iff leftC_iff stg_snoc stg_exact stg_col last_ne pivs_take ext)
open Sy
open Bm (ZI ZI.kept ZI.of MxR ZsR mxr_at mxr_kept zsr_at zsr_kept mOk)
namespace Bp
theorem zn_nought (B:Nat) (w:World):ZN B w false (.slice none 0 0) 0:=⟨[],⟨(fun _ h => by cases h),.inl ⟨rfl,rfl⟩⟩,⟨fun _ h => (by cases h),.inl rfl,by decide,fun _ => rfl⟩,rfl⟩
theorem sol_uni (n m lm:Nat) (bq:Nat→Bool) (M:Nat→Nat→Int) (b:Nat→Int) (ps:List (Nat × Nat)) (X:Nat→Int):∃ (N:Nat) (C:Int) (zs:Nat→Int) (z:Int),N≤n∧∀ w e w',SolIs w n m lm bq M b ps X e w'→Kept w w'∧∃ xo xc s o k c,e = .returned (.tuple #[.agg #[.slice xo N xc,.bool s,.slice o k c],.int .i64 C])∧SdX (EN w.heap.size) w.heap.size w' xo N xc zs∧ZN w.heap.size w' s (.slice o k c) z:=by
 have zero:∀ (C:Int) (w:World) (e:Ending) (w':World),e = solE C→∃ xo xc s o k c,e = .returned (.tuple #[.agg #[.slice xo 0 xc,.bool s,.slice o k c],.int .i64 C])∧SdX (EN w.heap.size) w.heap.size w' xo 0 xc (fun _ => 0)∧ZN w.heap.size w' s (.slice o k c) 0:=fun C w e w' he => ⟨none,0,false,none,0,0,he,fun h => absurd h (Nat.lt_irrefl 0),zn_nought _ _⟩
 by_cases h1:m = n
 ·
  by_cases h2:anyB (fun j => !bq j) m = true
  ·
   refine ⟨0,10,fun _ => 0,0,Nat.zero_le _,fun w e w' ⟨hk,hx⟩ => ⟨hk,?_⟩⟩
   rcases hx with ⟨h,_⟩ | ⟨_,_,he⟩ | ⟨_,h,_⟩
   ·
    exact absurd h1 h
   ·
    exact zero _ _ _ _ he
   ·
    rw [h2] at h; cases h
  ·
   by_cases h3:(∃ k,k≤n∧sdW n lm M b ps k = true) ∨ (∃ j,j < n∧wideZ lm (X j) = true)
   ·
    refine ⟨0,13,fun _ => 0,0,Nat.zero_le _,fun w e w' ⟨hk,hx⟩ => ⟨hk,?_⟩⟩
    rcases hx with ⟨h,_⟩ | ⟨_,h,_⟩ | ⟨_,_,⟨_,he⟩ | ⟨a1,⟨_,he⟩ | ⟨a2,_⟩⟩⟩
    ·
     exact absurd h1 h
    ·
     exact absurd h h2
    ·
     exact zero _ _ _ _ he
    ·
     exact zero _ _ _ _ he
    ·
     rcases h3 with ⟨k,hk,e⟩ | ⟨j,hj,e⟩
     ·
      rw [a1 k hk] at e; cases e
     ·
      rw [a2 j hj] at e; cases e
   ·
    refine ⟨n,0,fun j => if lastP M ps < 0 then -X j else X j,if lastP M ps < 0 then -lastP M ps else lastP M ps,Nat.le_refl _,fun w e w' ⟨hk,hx⟩ => ⟨hk,?_⟩⟩
    rcases hx with ⟨h,_⟩ | ⟨_,h,_⟩ | ⟨_,_,⟨hb,_⟩ | ⟨_,⟨hb,_⟩ | ⟨_,xo,xc,s,o,k,c,he,hX,hD⟩⟩⟩
    ·
     exact absurd h1 h
    ·
     exact absurd h h2
    ·
     exact absurd (Or.inl hb) h3
    ·
     exact absurd (Or.inr hb) h3
    ·
     exact ⟨xo,xc,s,o,k,c,he,hX,hD⟩
 ·
  refine ⟨0,5,fun _ => 0,0,Nat.zero_le _,fun w e w' ⟨hk,hx⟩ => ⟨hk,?_⟩⟩
  rcases hx with ⟨_,he⟩ | ⟨h,_⟩ | ⟨h,_⟩
  ·
   exact zero _ _ _ _ he
  ·
   exact absurd h h1
  ·
   exact absurd h h1
def Lt (w:World) (b:Nat):Prop:=∃ cur fr,w.heap[b]? = some (.cells cur 40 fr)
def Wr (w:World) (b m:Nat):Prop:=∀ j,j < m→(∃ v,w.cell? ⟨b,j,none⟩ = some v)∧w.frozen? ⟨b,j,none⟩ = false
theorem Wr.set {w:World} {b m:Nat} (h:Wr w b m) (p:Addr) (x:Value):Wr (w.setCell p x) b m:=fun j hj => by
 obtain ⟨⟨v,hv⟩,hf⟩:=h j hj
 exact ⟨cell?_setCell_some hv,by rw [World.frozen?_setCell]; exact hf⟩
theorem zn_wr {B:Nat} {w:World} {s:Bool} {ao:Option Addr} {k cap:Nat} {z:Int} (h:ZN B w s (.slice ao k cap) z) (h0:0 < k):∃ b,ao = some ⟨b,0,none⟩∧B≤b∧b < w.heap.size∧Lt w b∧Wr w b k:=by
 obtain ⟨l,⟨_,⟨e,_⟩ | ⟨b,N,f,e,hB,hN,hr,hf⟩⟩,_⟩:=h
 ·
  cases e
  exact absurd h0 (Nat.lt_irrefl 0)
 ·
  cases e
  have hr':=hr
  obtain ⟨c,hb,hn,hc⟩:=hr'
  exact ⟨b,rfl,hB,hr.lt,⟨c,_,hb⟩,fun j hj => ⟨⟨_,hr.cell (by omega)⟩,hr.frozen j⟩⟩
theorem row_not {w:World} {t:TypeId} {p:Nat} {xs:List Value} (r:RowL t w p xs) (ht:t ≠ 40):¬ Lt w p:=fun ⟨cur,fr,h⟩ => by
 obtain ⟨c',h4,_⟩:=r
 rw [h4] at h
 injection h with h
 injection h with _ e2
 exact ht e2
theorem own_not {B:Nat} {w:World} {t:TypeId} {sz n cap g:Nat} {xs:List Value} (h:w.ownsRow B t sz (.slice (some ⟨g,0,none⟩) n cap) n xs) (ht:t ≠ 40):¬ Lt w g:=fun ⟨cur,fr,hb⟩ => by
 obtain ⟨c,f,h1⟩:=own_block h
 rw [h1] at hb
 injection hb with hb
 injection hb with _ e2
 exact ht e2
theorem SdX.notl {E:World→Bool→Value→Int→Prop} {B:Nat} {w:World} {g n sc:Nat} {zs:Nat→Int} (h:SdX E B w (some ⟨g,0,none⟩) n sc zs) (h0:0 < n):¬ Lt w g:=fun ⟨cur,fr,hb⟩ => h.free h0 (t:=40) (by decide) g rfl cur fr hb
def Tx (a b W:World):Nat→Prop:=fun q => a.heap.size≤q∧q < b.heap.size∧Lt W q
def Ov (a b W V:World):Prop:=KX (Tx a b W) W V∧∀ q m,Wr W q m→Wr V q m
theorem Ov.refl (a b W:World):Ov a b W W:=⟨KX.refl W,fun _ _ h => h⟩
theorem Ov.set {a b W V:World} (h:Ov a b W V) {p:Addr} (hp:Tx a b W p.block) (x:Value):Ov a b W (V.setCell p x):=⟨h.1.setCell (.inl hp) x,fun q m hq => (h.2 q m hq).set p x⟩
theorem Ov.cell {a b W V:World} (h:Ov a b W V) {p:Addr} {u:Value} (hl:p.block < W.heap.size) (hn:¬ Lt W p.block) (hc:W.cell? p = some u):V.cell? p = some u:=(World.cell?_of_block (h.1.block _ hl fun ht => hn ht.2.2)).trans hc
theorem Ov.row {a b W V:World} (h:Ov a b W V) {t:TypeId} {p:Nat} {xs:List Value} (r:RowL t W p xs) (ht:t ≠ 40):RowL t V p xs:=row_kx r h.1 fun hx => row_not r ht hx.2.2
set_option maxRecDepth 100000 in
set_option maxHeartbeats 80000000 in
theorem tells_tail5 {ao bo lo:Option Addr} {n nb cap capb lc lm fb sc:Nat} {sa:Option Addr} {Ss:List StC} {M:Nat→Nat→Int} {Bs:List ZE} {ps:List (Nat × Nat)} {w w3:World} {B:Nat} {u3 u4 u5 u6 u7 u10 u12 u13 u14 u15 u16 u17 u18 u19 u20 u21 u22 u23 u24 u25 u26 u27 u28 u29 u30 u31 u32 u33 u34 u35 u36 u37 u38 u39 u40 u41 u42 u43 u44 u45 u46 u47 u48 u49 u50 u51 u52 u53 u54 u55 u56 u57 u58 u59 u60 u61 u62 u63 u64 u65 u66 u67 u68 u69 u70 u71 u72 u73 u74 u75 u76 u77 u78 u79 u80 u81 u82 u83 u84 u85 u86 u87 u88 u89 u90 u91 u92 u93 u94 u95 u96 u97 u98 u99 u100 u101 u102 u103 u104 u105 u106 u107 u108 u109 u110 u111 u112 u113 u114 u115 u116 u117 u118 u119 u120 u121 u122 u123 u124 u125 u126 u127 u128 u129 u130 u131 u132 u133 u134 u135 u136 u137 u138 u139 u140 u141 u142 u143 u144 u145 u146 u147 u148 u149 u150 u151 u152 u153 u154 u155 u156 u157 u158 u159 u160 u161 u162 u163 u164 u165 u166 u167 u168 u169 u170 u171 u172 u173 u174 u175 u176 u177 u178 u179 u180 u181 u182 u183 u184 u185 u186 u187 u188 u189 u190 u191 u192 u193 u194 u195 u196 u197 u198 u199 u200 u201 u202 u203 u204 u205 u206 u207 u208 u209 u210 u211 u212 u213 u214 u215 u216 u217 u218 u219 u220 u221 u222 u223 u224 u225 u226 u227 u228 u229 u230 u231 u232 u233 u234 u235 u236 u237 u238 u239 u240 u241 u242 u243 u244 u245 u246 u247 u248 u249 u250 u251 u252 u253 u254 u255 u256 u257 u258 u259 u260 u261 u262 u263 u264 u265 u266 u267 u268:Value} (hn:n≤48)
  (HF:Hid (Fits n M ps∧ps.length = n∧facS n lm M = (ps,0)∧lm≤32)) (HB:Hid (ZsR w bo Bs∧nb = Bs.length∧nb≤61))
  (H3:Hid (Kept w w3∧FacR B w3 fb n lm sa n sc Ss M ps∧SgR (fun _ => False) n M ps w3 (.slice lo n lc))) :
  (tailF Tryz.f3 42).wp Tryz.prog (bodyPost Tryz.prog Tryz.f3 fun e w' => Kept w w'∧e = .returned (.bool true)) ⟨((.slice ao n cap) :: (.slice bo nb capb) :: (.int .i64 (lm:Int)) :: u3 :: u4 :: u5 :: u6 :: u7 :: (.pointer (some ⟨fb,0,none⟩)) :: (.int .i64 (n:Int)) :: u10 :: (.slice lo n lc) :: u12 :: u13 :: u14 :: u15 :: u16 :: u17 :: u18 :: u19 :: u20 :: u21 :: u22 :: u23 :: u24 :: u25 :: u26 :: u27 :: u28 :: u29 :: u30 :: u31 :: u32 :: u33 :: u34 :: u35 :: u36 :: u37 :: u38 :: u39 :: u40 :: u41 :: u42 :: u43 :: u44 :: u45 :: u46 :: u47 :: u48 :: u49 :: u50 :: u51 :: u52 :: u53 :: u54 :: u55 :: u56 :: u57 :: u58 :: u59 :: u60 :: u61 :: u62 :: u63 :: u64 :: u65 :: u66 :: u67 :: u68 :: u69 :: u70 :: u71 :: u72 :: u73 :: u74 :: u75 :: u76 :: u77 :: u78 :: u79 :: u80 :: u81 :: u82 :: u83 :: u84 :: u85 :: u86 :: u87 :: u88 :: u89 :: u90 :: u91 :: u92 :: u93 :: u94 :: u95 :: u96 :: u97 :: u98 :: u99 :: u100 :: u101 :: u102 :: u103 :: u104 :: u105 :: u106 :: u107 :: u108 :: u109 :: u110 :: u111 :: u112 :: u113 :: u114 :: u115 :: u116 :: u117 :: u118 :: u119 :: u120 :: u121 :: u122 :: u123 :: u124 :: u125 :: u126 :: u127 :: u128 :: u129 :: u130 :: u131 :: u132 :: u133 :: u134 :: u135 :: u136 :: u137 :: u138 :: u139 :: u140 :: u141 :: u142 :: u143 :: u144 :: u145 :: u146 :: u147 :: u148 :: u149 :: u150 :: u151 :: u152 :: u153 :: u154 :: u155 :: u156 :: u157 :: u158 :: u159 :: u160 :: u161 :: u162 :: u163 :: u164 :: u165 :: u166 :: u167 :: u168 :: u169 :: u170 :: u171 :: u172 :: u173 :: u174 :: u175 :: u176 :: u177 :: u178 :: u179 :: u180 :: u181 :: u182 :: u183 :: u184 :: u185 :: u186 :: u187 :: u188 :: u189 :: u190 :: u191 :: u192 :: u193 :: u194 :: u195 :: u196 :: u197 :: u198 :: u199 :: u200 :: u201 :: u202 :: u203 :: u204 :: u205 :: u206 :: u207 :: u208 :: u209 :: u210 :: u211 :: u212 :: u213 :: u214 :: u215 :: u216 :: u217 :: u218 :: u219 :: u220 :: u221 :: u222 :: u223 :: u224 :: u225 :: u226 :: u227 :: u228 :: u229 :: u230 :: u231 :: u232 :: u233 :: u234 :: u235 :: u236 :: u237 :: u238 :: u239 :: u240 :: u241 :: u242 :: u243 :: u244 :: u245 :: u246 :: u247 :: u248 :: u249 :: u250 :: u251 :: u252 :: u253 :: u254 :: u255 :: u256 :: u257 :: u258 :: u259 :: u260 :: u261 :: u262 :: u263 :: u264 :: u265 :: u266 :: u267 :: u268 :: []).toArray,[]⟩ w3:=by
 conv =>
  arg 2
  whnf
 obtain ⟨N,C,zs,z,hN,huni⟩:=sol_uni n nb lm (zsB Bs) M (zsF Bs) ps (bkA n M (zsF Bs) ps)
 have HU:=hid huni
 clear huni
 have HSv:=hid (fun (V:World) (K:Kept w3 V) => show Calls Tryz.prog 13 #[.pointer (some ⟨fb,0,none⟩),.slice bo nb capb] V (SolIs V n nb lm (zsB Bs) M (zsF Bs) ps (bkA n M (zsF Bs) ps)) from
  solve_full _ fb n nb lm sa sc Ss M (zsB Bs) (zsF Bs) ps bo capb V (H3.out.2.1.kept K) HF.out.1 HF.out.2.1 HF.out.2.2.1 HF.out.2.2.2 hn (by have:=HB.out.2.2; omega) (zsr_q (zsr_kept HB.out.1 (H3.out.1.trans K)) nb capb HB.out.2.1) (fun hr => zsr_il (zsr_kept HB.out.1 (H3.out.1.trans K)) nb capb HB.out.2.1 hr) (zsr_nil HB.out.1 nb HB.out.2.1))
 have hs1:=HSv.out w3 (Kept.refl _)
 --%A
 go_wp2_with fail
 refine hs1.mono ?_
 rintro e w4 hS
 obtain ⟨hk4,xo,xc,sx,ox,kx,cx,rfl,hX,hXd⟩:=HU.out _ _ _ hS
 have rX:=RowL.alloc 54 w4 [.slice xo N xc,.bool sx,.slice ox kx cx]
 have kX:=(Kept.refl w4).alloc (.cells #[.slice xo N xc,.bool sx,.slice ox kx cx] 54)
 obtain ⟨pX,hpX⟩:∃ p,p = w4.heap.size:=⟨_,rfl⟩
 rw [← hpX] at rX
 obtain ⟨w5,hw5⟩:∃ W,W = w4.alloc (.cells #[.slice xo N xc,.bool sx,.slice ox kx cx] 54):=⟨_,rfl⟩
 rw [← hw5] at kX
 have rX:RowL 54 w5 pX [.slice xo N xc,.bool sx,.slice ox kx cx]:=by rw [hw5]; exact rX
 have K35:=hk4.trans kX
 have hs2:=HSv.out w5 K35
 rw [hw5] at hs2
 have HX:=hid (And.intro K35 (And.intro hX (And.intro hXd (And.intro kX rX))))
 clear hs1 hS hk4 hX hXd kX rX K35
 --%B
 go_wp2_with fail
 rw [← hpX]
 clear hpX
 rw [← hw5] at hs2 ⊢
 clear hw5
 refine hs2.mono ?_
 rintro e w6 hS
 obtain ⟨hk6,yo,yc,sy,oy,ky,cy,rfl,hY,hYd⟩:=HU.out _ _ _ hS
 have rY:=RowL.alloc 54 w6 [.slice yo N yc,.bool sy,.slice oy ky cy]
 have kY:=(Kept.refl w6).alloc (.cells #[.slice yo N yc,.bool sy,.slice oy ky cy] 54)
 obtain ⟨pY,hpY⟩:∃ p,p = w6.heap.size:=⟨_,rfl⟩
 rw [← hpY] at rY
 obtain ⟨w7,hw7⟩:∃ W,W = w6.alloc (.cells #[.slice yo N yc,.bool sy,.slice oy ky cy] 54):=⟨_,rfl⟩
 rw [← hw7] at kY
 have rY:RowL 54 w7 pY [.slice yo N yc,.bool sy,.slice oy ky cy]:=by rw [hw7]; exact rY
 have K37:=HX.out.1.trans (hk6.trans kY)
 have hs3:=solve14_any lo bo n nb lc capb lm M Bs ps w7 (H3.out.2.2.kept K37) (zsr_kept HB.out.1 (H3.out.1.trans K37)) HB.out.2.1 HB.out.2.2 HF.out.1 HF.out.2.1 HF.out.2.2.1 HF.out.2.2.2 hn
 rw [hw7] at hs3
 have HY:=hid (And.intro hk6 (And.intro hY (And.intro hYd (And.intro kY (And.intro rY K37)))))
 clear hs2 hS hk6 hY hYd kY rY K37
 --%C
 go_wp2_with fail
 rw [← hpY]
 clear hpY
 rw [← hw7] at hs3 ⊢
 clear hw7
 refine hs3.mono ?_
 rintro e w8 hS
 obtain ⟨hk8,vo,vc,sv,ov,kv,cv,rfl,hV,hVd⟩:=HU.out _ _ _ hS
 have rV:=RowL.alloc 54 w8 [.slice vo N vc,.bool sv,.slice ov kv cv]
 have kV:=(Kept.refl w8).alloc (.cells #[.slice vo N vc,.bool sv,.slice ov kv cv] 54)
 obtain ⟨pV,hpV⟩:∃ p,p = w8.heap.size:=⟨_,rfl⟩
 rw [← hpV] at rV
 obtain ⟨w9,hw9⟩:∃ W,W = w8.alloc (.cells #[.slice vo N vc,.bool sv,.slice ov kv cv] 54):=⟨_,rfl⟩
 rw [← hw9] at kV
 have rV:RowL 54 w9 pV [.slice vo N vc,.bool sv,.slice ov kv cv]:=by rw [hw9]; exact rV
 have K59:=HY.out.1.trans (HY.out.2.2.2.1.trans (hk8.trans kV))
 have K79:=hk8.trans kV
 have x0:=(HX.out.2.2.2.2.kept K59).cell 0 _ rfl
 have x1:=(HX.out.2.2.2.2.kept K59).cell 1 _ rfl
 have x2:=(HX.out.2.2.2.2.kept K59).cell 2 _ rfl
 have v0:=rV.cell 0 _ rfl
 have v1:=rV.cell 1 _ rfl
 have v2:=rV.cell 2 _ rfl
 have hsm:=sames14_any xo vo N xc vc zs sx sv ox ov kx kv cx cv z w9 ((HX.out.2.1.kept (EN.keeps _) (HX.out.2.2.2.1.trans K59)).il (fun _ _ _ h => ZN.zi h)) ((hV.kept (EN.keeps _) kV).il (fun _ _ _ h => ZN.zi h)) (ZN.zi (ZN.kept HX.out.2.2.1 (HX.out.2.2.2.1.trans K59))) (ZN.zi (ZN.kept hVd kV)) (by omega)
 have HV:=hid (And.intro K79 (And.intro hV (And.intro hVd (And.intro kV (And.intro rV K59)))))
 rw [hw9] at hsm x0 x1 x2 v0 v1 v2
 clear hs3 hS hk8 hV hVd kV rV K59 K79
 --%D
 go_wp2_with fail
 rw [← hpV]
 clear hpV
 rw [← hw9] at hsm ⊢
 clear hw9 x0 x1 x2 v0 v1 v2
 refine hsm.mono ?_
 rintro e w10 ⟨hk10,rfl⟩
 have HK10:=hid hk10
 have x0:=(HX.out.2.2.2.2.kept (HV.out.2.2.2.2.2.trans hk10)).cell 0 _ rfl
 clear hsm hk10
 --%E
 go_wp2_with fail
 have K410:=HX.out.2.2.2.1.trans (HV.out.2.2.2.2.2.trans HK10.out)
 have HC:=hid (And.intro K410 (And.intro (HX.out.2.2.2.2.kept (HV.out.2.2.2.2.2.trans HK10.out)) (And.intro (HY.out.2.2.2.2.1.kept (HV.out.1.trans HK10.out)) (HV.out.2.2.2.2.1.kept HK10.out))))
 clear K410 x0
 go_loopw [26,232] (fun _ v232 wr => ∃ i:Nat,i≤N∧v232 = .int .i64 (i:Int)∧Hid (Ov w3 w4 w10 wr)) (fun _ v232 _ => N - (intOf v232).toNat)
 case atStart => exact ⟨0,Nat.zero_le _,rfl,Ov.refl _ _ _⟩
 case round =>
  obtain ⟨i,hi,rfl,J⟩:=hrel
  generalize wr = w11 at J ⊢
  by_cases hit:i < N
  ·
   have hii:(i:Int) < (N:Int):=by omega
   have hi0:(0:Int)≤(i:Int):=by omega
   obtain ⟨g,s1,ao1,k1,cp1,rfl,hg,hc0,hc1,hz1,_⟩:=HX.out.2.1.at hit
   have hng:¬ Lt w10 g:=(HX.out.2.1.kept (EN.keeps _) HC.out.1).notl (by omega)
   have hlg:g < w10.heap.size:=Nat.lt_of_lt_of_le hg.2 HC.out.1.size
   have hrd:=hid (fun (V:World) (h:Ov w3 w4 w10 V) => show V.cell? ⟨pX,0,none⟩ = some (.slice (some ⟨g,0,none⟩) N xc)∧V.cell? ⟨g,i * 2 + 1,none⟩ = some (.slice ao1 k1 cp1) from ⟨(h.row HC.out.2.1 (by decide)).cell 0 _ rfl,h.cell (p:=⟨g,i * 2 + 1,none⟩) hlg hng ((Below.cell HC.out.1 (p:=⟨g,i * 2 + 1,none⟩) hg.2).trans hc1)⟩)
   have hk72:k1≤72:=Bm.ZI.len (ZN.zi hz1)
   have HZ1:=hid hz1
   clear hc0 hc1 hz1 hng hlg hg
   have x0:=(hrd.out w11 J.out).1
   have x1:=(hrd.out w11 J.out).2
   --%F
   go_wp2_with fail
   clear x0 x1
   go_loopw [27,242] (fun _ v242 wr => ∃ j:Nat,j≤k1∧v242 = .int .i64 (j:Int)∧Hid (Ov w3 w4 w10 wr)) (fun _ v242 _ => k1 - (intOf v242).toNat)
   case atStart => exact ⟨0,Nat.zero_le _,rfl,J.out⟩
   case round =>
    obtain ⟨j,hj,rfl,L⟩:=hrel
    generalize wr = w12 at L ⊢
    by_cases hjt:j < k1
    ·
     have hjj:(j:Int) < (k1:Int):=by omega
     have hj0:(0:Int)≤(j:Int):=by omega
     obtain ⟨b,rfl,hb1,hb2,_,_⟩:=zn_wr HZ1.out (by omega)
     obtain ⟨b',e',_,_,hb3,hb4⟩:=zn_wr (ZN.kept HZ1.out HC.out.1) (by omega)
     injection e' with e'
     injection e' with e'
     subst e'
     have x0:=(hrd.out w12 L.out).1
     have x1:=(hrd.out w12 L.out).2
     obtain ⟨⟨v9,y0⟩,f0⟩:=L.out.2 b k1 hb4 j hjt
     have HN:=hid (L.out.set (p:=⟨b,j,none⟩) ⟨hb1,hb2,hb3⟩ (.int .u32 7))
     clear hb1 hb2 hb3 hb4
     --%G
     go_wp2_with fail
     go_roundw
     case rel => exact ⟨j + 1,by omega,by go_num,HN.out⟩
     case measure => show k1 - ((j:Int) + 1).toNat < k1 - (j:Int).toNat; omega
    ·
     have hjj:¬ (j:Int) < (k1:Int):=by omega
     --%H
     go_wp2_with fail
     go_roundw
     case rel => exact ⟨i + 1,by omega,by go_num,L.out⟩
     case measure => show N - ((i:Int) + 1).toNat < N - (i:Int).toNat; omega
  ·
   have hii:¬ (i:Int) < (N:Int):=by omega
   have K311:Kept w3 w11:=KX.kept (HX.out.1.trans (HV.out.2.2.2.2.2.trans HK10.out)) J.out.1 fun q hq => hq.1
   have hs4:=HSv.out w11 K311
   have HK311:=hid K311
   clear K311
   --%I
   go_wp2_with fail
   refine hs4.mono ?_
   rintro e w12 hS
   obtain ⟨hk12,zo,zc,sz,oz,kz,cz,rfl,hZ,hZd⟩:=HU.out _ _ _ hS
   have rZ:=RowL.alloc 54 w12 [.slice zo N zc,.bool sz,.slice oz kz cz]
   have kZ:=(Kept.refl w12).alloc (.cells #[.slice zo N zc,.bool sz,.slice oz kz cz] 54)
   obtain ⟨pZ,hpZ⟩:∃ p,p = w12.heap.size:=⟨_,rfl⟩
   rw [← hpZ] at rZ
   obtain ⟨w13,hw13⟩:∃ W,W = w12.alloc (.cells #[.slice zo N zc,.bool sz,.slice oz kz cz] 54):=⟨_,rfl⟩
   rw [← hw13] at kZ
   have rZ:RowL 54 w13 pZ [.slice zo N zc,.bool sz,.slice oz kz cz]:=by rw [hw13]; exact rZ
   have K1113:=hk12.trans kZ
   have rY:=(J.out.row HC.out.2.2.1 (by decide)).kept K1113
   have rV:=(J.out.row HC.out.2.2.2 (by decide)).kept K1113
   have hYl:=((HY.out.2.1.kept (EN.keeps _) (HY.out.2.2.2.1.trans (HV.out.1.trans HK10.out))).low J.out.1 (fun q hq => Nat.lt_of_lt_of_le hq.2.1 HX.out.2.2.2.1.size)).kept (EN.keeps _) K1113
   have hYz:=((ZN.low (ZN.kept HY.out.2.2.1 (HY.out.2.2.2.1.trans (HV.out.1.trans HK10.out))) J.out.1 (fun q hq => Nat.lt_of_lt_of_le hq.2.1 HX.out.2.2.2.1.size))).kept K1113
   have h47:=(HX.out.2.2.2.1.trans (HY.out.1.trans HY.out.2.2.2.1)).size
   have hVl:=((HV.out.2.1.kept (EN.keeps _) (HV.out.2.2.2.1.trans HK10.out)).low J.out.1 (fun q hq => Nat.lt_of_lt_of_le hq.2.1 h47)).kept (EN.keeps _) K1113
   have hVz:=((ZN.low (ZN.kept HV.out.2.2.1 (HV.out.2.2.2.1.trans HK10.out)) J.out.1 (fun q hq => Nat.lt_of_lt_of_le hq.2.1 h47))).kept K1113
   have hsY:=sames14_any yo vo N yc vc zs sy sv oy ov ky kv cy cv z w13 (hYl.il (fun _ _ _ h => ZN.zi h)) (hVl.il (fun _ _ _ h => ZN.zi h)) (ZN.zi hYz) (ZN.zi hVz) (by omega)
   have HZ:=hid (fun (V:World) (K:Kept w13 V) => sames14_any zo vo N zc vc zs sz sv oz ov kz kv cz cv z V ((hZ.kept (EN.keeps _) (kZ.trans K)).il (fun _ _ _ h => ZN.zi h)) ((hVl.kept (EN.keeps _) K).il (fun _ _ _ h => ZN.zi h)) (ZN.zi (ZN.kept hZd (kZ.trans K))) (ZN.zi (ZN.kept hVz K)) (by omega))
   have HR:=hid (fun (V:World) (K:Kept w13 V) => show (RowL 54 V pY [.slice yo N yc,.bool sy,.slice oy ky cy]∧RowL 54 V pV [.slice vo N vc,.bool sv,.slice ov kv cv]∧RowL 54 V pZ [.slice zo N zc,.bool sz,.slice oz kz cz]) from ⟨rY.kept K,rV.kept K,rZ.kept K⟩)
   have y0:=rY.cell 0 _ rfl
   have y1:=rY.cell 1 _ rfl
   have y2:=rY.cell 2 _ rfl
   have v0:=rV.cell 0 _ rfl
   have v1:=rV.cell 1 _ rfl
   have v2:=rV.cell 2 _ rfl
   have HK13:=hid K1113
   rw [hw13] at hsY y0 y1 y2 v0 v1 v2
   clear hs4 hS hk12 hZ hZd rZ kZ K1113 rY rV hYl hYz hVl hVz h47
   --%J
   go_wp2_with fail
   rw [← hpZ]
   clear hpZ
   rw [← hw13] at hsY ⊢
   clear hw13 y0 y1 y2 v0 v1 v2
   refine hsY.mono ?_
   rintro e w14 ⟨hk14,rfl⟩
   have hsZ:=HZ.out w14 hk14
   have z0:=(HR.out w14 hk14).2.2.cell 0 _ rfl
   have z1:=(HR.out w14 hk14).2.2.cell 1 _ rfl
   have z2:=(HR.out w14 hk14).2.2.cell 2 _ rfl
   have v0:=(HR.out w14 hk14).2.1.cell 0 _ rfl
   have v1:=(HR.out w14 hk14).2.1.cell 1 _ rfl
   have v2:=(HR.out w14 hk14).2.1.cell 2 _ rfl
   have HK14:=hid hk14
   clear hsY hk14
   --%K
   go_wp2_with fail
   refine hsZ.mono ?_
   rintro e w15 ⟨hk15,rfl⟩
   have HK15:=hid (H3.out.1.trans (HK311.out.trans (HK13.out.trans (HK14.out.trans hk15))))
   clear hsZ hk15
   --%L
   go_wp2_with fail
   go_ret
   exact ⟨HK15.out,rfl⟩
end Bp
end Go.Proofs.YtdcgdpbgnijnpaaGreat
