/- shuntlaw14.BareissDet: its walk. shuntlaw14.BareissMinors: its walk. -/
import Derived.Test.YtdcfammglpebaaaGreatDt7
import Derived.Test.YtdcfammglpebaaaGreatRquo
import Derived.Test.YtdcfammglpebaaaGreatGax
import Derived.Test.YtdcfammglpebaaaGreatGan
import Derived.Test.YtdcfammglpebaaaGreatGaw
namespace Go.Proofs.YtdcfammglpebaaaGreat
open Go.RowKit
open V (RowL RowL.alloc RowL.lt RowL.cell RowL.fz RowL.kept RowL.set RowL.far)
open Sp (hid)
open Sy
open Bm (ZI ZI.kept ZI.of MxR ZsR mxr_at mxr_kept zsr_at zsr_kept mOk)
open Ba (stg lastP pivs facS Fits)
namespace Bp
theorem give_zi (m:Bool) (ao:Option Addr) (k cap:Nat) (z:Int) (w:World) (h:D.NIs w m (.slice ao k cap) z) (hk:k≤7000) (hr:∃ s l,M.Right s l∧M.int s l = z) :
  Calls Tryz.prog 16 #[.agg #[.bool m,.slice ao k cap]] w fun e w' => Kept w w'∧∃ ao' n' cap',e = .returned (.agg #[.bool m,.slice ao' n' cap'])∧ZI w' m (.slice ao' n' cap') z:=by
 refine (D.Give_int m ao k cap z w h (by omega)).mono ?_
 rintro e w' ⟨h1,ao',n',cap',l,rfl,hn,ht,hv,hl⟩
 refine ⟨h1,ao',n',cap',rfl,l,hn.sl,?_,hv⟩
 obtain ⟨s,l2,hR,hi⟩:=hr
 have hvv:M.val l = M.val l2:=by
  have e:M.int m l = M.int s l2:=hv.trans hi.symm
  unfold M.int at e
  cases m <;> cases s <;> simp at e <;> omega
 have hll:=M.val_inj hn.sl.bd hR.bd ht hR.tr hvv
 subst hll
 refine ⟨hR.bd,hR.tr,hR.len,hl⟩
end Bp
end Go.Proofs.YtdcfammglpebaaaGreat

namespace Go.Proofs.YtdcfammglpebaaaGreat
open Go.RowKit
open V (RowL RowL.alloc RowL.lt RowL.cell RowL.fz RowL.kept RowL.set RowL.far)
open Sp (hid own_kept own_keptK own_shape info_parts)
open Sy
open Bm (ZI ZI.kept ZI.of MxR ZsR mxr_at mxr_kept zsr_at zsr_kept mOk)
open Ba (stg lastP pivs facS Fits cast)
open X (zk zr zl zd region_z anyZ_ready AllZ AllZ.cons AllZ.nil)
namespace Bp
theorem piv_det {n k:Nat} {M:Nat→Nat→Int} {ps:List (Nat × Nat)} (h:Fits n M ps) (hk:k < ps.length):((pivF M ps k:Int):Rat) = Ba.det (k + 1) (cast fun a b => M (ps.getD a (0,0)).1 (ps.getD b (0,0)).2):=by
 unfold pivF
 rw [Ba.stg_minor (Ba.pivs_take h.piv k)]
 unfold Ba.minor
 have hl:(ps.take k).length = k:=by rw [List.length_take]; omega
 rw [hl]
 refine Ba.det_congr fun a b ha hb => ?_
 have e1:=(Ba.rowOf_at (ps.take k) (ps.getD k (0,0)).1 (ps.getD k (0,0)).2 a (by omega)).1
 have e2:=(Ba.rowOf_at (ps.take k) (ps.getD k (0,0)).1 (ps.getD k (0,0)).2 b (by omega)).2
 have e3:ps.take k ++ [((ps.getD k (0,0)).1,(ps.getD k (0,0)).2)] = ps.take (k + 1):=by
  rw [List.take_add_one,List.getElem?_eq_getElem hk,List.getD_eq_getElem?_getD,List.getElem?_eq_getElem hk]
  rfl
 rw [e1,e2,e3]
 unfold Ba.rowAt Ba.colAt
 have e4:∀ a,a < k + 1→(ps.take (k + 1)).getD a (0,0) = ps.getD a (0,0):=fun a ha => by rw [List.getD_eq_getElem?_getD,List.getElem?_take_of_lt ha,List.getD_eq_getElem?_getD]
 rw [e4 a ha,e4 b hb]
 rfl
set_option maxRecDepth 100000 in
set_option maxHeartbeats 80000000 in
theorem minorsl14_any (ao:Option Addr) (n cap:Nat) (limbs:Int) (L:List LE) (w:World) (h:MxR w ao L) (hl:n = L.length) (hn:n≤1000000000000000) (hs:∀ r ∈ L,r.cs.length≤1000000000000000) (hl1:-9223372036854775808≤limbs) (hl2:limbs≤9223372036854775807) :
  Calls Tryz.prog 7 #[.slice ao n cap,.int .i64 limbs] w fun e w' => Kept w w'∧e = .returned (.bool true):=by
 have HL:=hid (And.intro h (And.intro hl hs))
 clear h hl hs
 obtain ⟨i0,hi0,hz0,hz1,hz2⟩:=info_parts info_rn
 obtain ⟨i1,hi1,hy0,hy1,hy2⟩:=info_parts info_rns
 go_enter Tryz.func7,Tryz.ntmps7
 go_wp2_with fail
 refine (awake14_any w).mono ?_
 rintro e w1 ⟨K1,rfl⟩
 have HK:=hid K1
 clear K1
 --%A
 go_wp2_with fail
 refine (Bm.heavy_any ao none n cap 0 0 L [] w1 (mxr_kept HL.out.1 HK.out) (fun h => absurd h (Nat.not_lt_zero _)) HL.out.2.1 rfl hn (by omega) HL.out.2.2).mono ?_
 rintro e w2 ⟨hk,bb,rfl,hlt⟩
 have HK:=hid (HK.out.trans hk)
 have HLt:=hid hlt
 clear hk hlt
 cases bb with
 | true =>
  go_wp2_with fail
  go_ret
  exact ⟨HK.out,rfl⟩
 | false =>
 have hLt:=HLt.out rfl
 have hn61:n≤61:=by rw [HL.out.2.1]; exact hLt.1
 have HSz:=hid (fun l (hl:l ∈ L) => (hLt.2.1 l hl).1)
 clear hLt HLt hn
 --%B
 go_wp2_with fail
 refine (Bm.fault_any ao n cap L w2 (mxr_kept HL.out.1 HK.out) HL.out.2.1 (by omega) (fun l hl => Nat.le_trans (HSz.out l hl) (by decide))).mono ?_
 rintro e w3 ⟨hk,rfl⟩
 have HK:=hid (HK.out.trans hk)
 clear hk
 by_cases hok:mOk L = true
 rotate_left
 ·
  rw [if_neg hok]
  go_wp2_with fail
  go_ret
  exact ⟨HK.out,rfl⟩
 rw [if_pos hok]
 have HOk:=hid hok
 clear hok
 by_cases hn7:6 < n
 ·
  have hn7':(6:Int) < (n:Int):=by omega
  --%C1
  go_wp2_with fail
  go_ret
  exact ⟨HK.out,rfl⟩
 have hn7':¬ (6:Int) < (n:Int):=by omega
 --%C
 go_wp2_with fail
 refine (new_any ao n cap limbs L w3 (mxr_kept HL.out.1 HK.out) HL.out.2.1 (fun l hl => Nat.le_trans (HSz.out l hl) (by decide)) (by omega) hl1 hl2).mono ?_
 rintro e w4 ⟨hk,⟨h1,_⟩ | ⟨_,h1,rfl⟩ | ⟨_,hlim,ps,er,hs,hf,hx⟩⟩
 ·
  rw [HOk.out] at h1; cases h1
 ·
  have HK:=hid (HK.out.trans hk)
  clear hk
  --%D
  go_wp2_with fail
  go_ret
  exact ⟨HK.out,rfl⟩
 rcases hx with ⟨hne,rfl⟩ | ⟨h0,fb,sa,sk,sc,Ss,rfl,hF⟩
 ·
  have hne2:(er == 0) = false:=by simpa using hne
  have hne3:(er != 0) = true:=by simp [bne,hne2]
  have HK:=hid (HK.out.trans hk)
  clear hk hs hf
  --%E
  go_wp2_with fail
  go_ret
  exact ⟨HK.out,rfl⟩
 subst h0
 have hpl:=fac0_len hs
 have hsk:sk = n:=by rw [hF.len,hpl]
 rw [hsk] at hF
 have HF:=hid (And.intro hF (And.intro hf hpl))
 have HK:=hid (HK.out.trans hk)
 clear hk hs hf hF hsk
 rw [hpl]
 clear hpl
 --%F
 go_wp2_with fail
 refine (order_any _ fb n limbs.toNat sa n sc Ss (matF L) ps w4 HF.out.1 (by omega)).mono ?_
 rintro e w5 ⟨hk,va,vb,rfl,hva,hvb,_⟩
 obtain ⟨a1,c1,rfl,_,ix1⟩:=own_ix Prod.fst hva HF.out.2.2.symm
 obtain ⟨a2,c2,rfl,_,ix2⟩:=own_ix Prod.snd hvb HF.out.2.2.symm
 have H5:=hid (And.intro (HK.out.trans hk) (And.intro (HF.out.1.kept hk) (And.intro ix1 ix2)))
 clear hk hva hvb ix1 ix2
 --%G
 go_wp2_with fail
 refine (pivots_any _ fb n limbs.toNat sa n sc Ss (matF L) ps w5 H5.out.2.1 HF.out.2.1 (by omega)).mono ?_
 rintro e w6 ⟨hk,v,rfl,hp⟩
 rw [HF.out.2.2] at hp
 obtain ⟨po,pc,rfl⟩:=own_shape hp.choose_spec.1
 have H6:=hid (And.intro (H5.out.1.trans hk) (And.intro hk hp.sdx))
 clear hk hp
 --%H
 go_wp2_with fail
 refine (square14_any ao n cap L w6 (mxr_kept HL.out.1 H6.out.1) HL.out.2.1 HOk.out).mono ?_
 rintro e w7 ⟨hk,mo,mc,rfl,hsq⟩
 have H7:=hid (And.intro (H6.out.1.trans hk) (And.intro hsq (And.intro (SdX.kept H6.out.2.2 (EN.keeps _) hk) (And.intro (fun V (K:Kept w7 V) => (H6.out.2.1.trans (hk.trans K)) ) hk))))
 clear hk hsq
 obtain ⟨R,hR⟩:∃ R:Nat→Nat,R = fun a => (ps.getD a (0,0)).1:=⟨_,rfl⟩
 obtain ⟨C,hC⟩:∃ C:Nat→Nat,C = fun a => (ps.getD a (0,0)).2:=⟨_,rfl⟩
 have hRn:∀ a,a < n→R a < n∧C a < n:=fun a ha => by
  rw [hR,hC]
  have hm:ps.getD a (0,0) ∈ ps:=by rw [getD_in (show a < ps.length by rw [HF.out.2.2]; exact ha)]; exact List.getElem_mem _
  exact HF.out.2.1.lt _ hm
 have HRC:=hid (And.intro hRn (And.intro hR hC))
 clear hRn hR hC
 --%I
 go_wp2_with fail
 go_loopw [72] (fun v72 wr => ∃ k:Nat,k≤n∧v72 = .int .i64 (k:Int)∧Hid (Kept w7 wr)) (fun v72 _ => n - (intOf v72).toNat)
 case atStart => exact ⟨0,Nat.zero_le _,rfl,Kept.refl _⟩
 case round =>
  obtain ⟨k,hkn,rfl,J⟩:=hrel
  generalize wr = w8 at J ⊢
  by_cases hkt:k < n
  ·
   have hkk:(k:Int) < (n:Int):=by omega
   have hk0:(0:Int)≤(k:Int):=by omega
   obtain ⟨F',hF'⟩:∃ F':Nat→Nat→Int,F' = fun a b => matF L (R a) (C b):=⟨_,rfl⟩
   have HF':=hid hF'
   clear hF'
   --%J
   go_wp2_with fail
   go_loopw [13,14] (fun v13 v14 wr => ∃ i:Nat,i≤k + 1∧v14 = .int .i64 (i:Int)∧Hid (Kept w8 wr∧MO w8.heap.size 144 (k + 1) F' wr v13 i)) (fun _ v14 _ => k + 1 - (intOf v14).toNat)
   case atStart => exact ⟨0,Nat.zero_le _,rfl,Kept.refl _,MO.nil _ _ _ _ _⟩
   case round =>
    obtain ⟨i,hi,rfl,I⟩:=hrel
    generalize wr = w9 at I ⊢
    by_cases hit:i < k + 1
    ·
     have hii:(i:Int)≤(k:Int):=by omega
     have hi0':(0:Int)≤(i:Int):=by omega
     have hin:i < n:=by omega
     have hinI:(i:Int) < (n:Int):=by omega
     obtain ⟨b1,o1,rfl,hb1,hr1⟩:=H5.out.2.2.1 (show 0 < n by omega)
     obtain ⟨b2,o2,rfl,hb2,hr2⟩:=H5.out.2.2.2 (show 0 < n by omega)
     have hR1:(R i:Int) < (n:Int):=by have:=(HRC.out.1 i hin).1; omega
     have hR0:(0:Int)≤(R i:Int):=by omega
     obtain ⟨mb,mf,ra,rc,rfl,hmb,hmc,hrd⟩:=H7.out.2.1.at (HRC.out.1 i hin).1
     have hrI:∀ a,a < n→∀ V,Kept w7 V→V.cell? ⟨b1,o1 + a,none⟩ = some (.int .i64 (R a:Int)):=fun a ha V K => (Below.cell (H7.out.2.2.2.1 V K) (p:=⟨b1,o1 + a,none⟩) hb1).trans (by rw [hr1 a ha,HRC.out.2.1])
     have hcI:∀ a,a < n→∀ V,Kept w7 V→V.cell? ⟨b2,o2 + a,none⟩ = some (.int .i64 (C a:Int)):=fun a ha V K => (Below.cell (H7.out.2.2.2.1 V K) (p:=⟨b2,o2 + a,none⟩) hb2).trans (by rw [hr2 a ha,HRC.out.2.2])
     have HI:=hid (And.intro hrI (And.intro hcI (And.intro hmc hrd)))
     have hA:∀ q,u13.ownBlock = some q→w8.heap.size≤q∧q < w9.heap.size:=fun q hq => by
      obtain ⟨hs,ho,_⟩:=I.out.2
      exact World.ownsRow.lt ho q hq
     have HA:=hid hA
     clear hrI hcI hr1 hr2 hmc hrd hA
     --%K
     go_wp2_with fail
     go_loopw [15,16] (fun v15 v16 wr => ∃ j:Nat,j≤k + 1∧v16 = .int .i64 (j:Int)∧Hid (Kept w9 wr∧NO (fun q => u13.ownBlock = some q) w9.heap.size 144 (F' i) wr v15 j)) (fun _ v16 _ => k + 1 - (intOf v16).toNat)
     case atStart => exact ⟨0,Nat.zero_le _,rfl,Kept.refl _,NO.nil _ _ _ _ _⟩
     case round =>
      obtain ⟨j,hj,rfl,U⟩:=hrel
      generalize wr = w10 at U ⊢
      by_cases hjt:j < k + 1
      ·
       have hjj:(j:Int)≤(k:Int):=by omega
       have hj0:(0:Int)≤(j:Int):=by omega
       have hjn:j < n:=by omega
       have hjnI:(j:Int) < (n:Int):=by omega
       have hC1:(C j:Int) < (n:Int):=by have:=(HRC.out.1 j hjn).2; omega
       have hC0:(0:Int)≤(C j:Int):=by omega
       have hC2:¬ (n:Int)≤(C j:Int):=by omega
       have hC3:¬ (C j:Int) < 0:=by omega
       have hR2:¬ (n:Int)≤(R i:Int):=by omega
       have hR3:¬ (R i:Int) < 0:=by omega
       have hR4:¬ n≤R i:=by omega
       have hC4:¬ n≤C j:=by omega
       have hR5:R i < n:=by omega
       have hC5:C j < n:=by omega
       obtain ⟨b3,o3,s,zo,zk9,zc,rfl,hb3,_,hcb,hdx,hzk⟩:=HI.out.2.2.2.at (HRC.out.1 j hjn).2
       have hcb2:=fun (V:World) (K:Kept w7 V) => hcb V (KX.of K)
       have K7:=J.out.trans (I.out.1.trans U.out.1)
       obtain ⟨xs,ho,hAv,hx⟩:=U.out.2
       have H10:=hid (And.intro K7 (And.intro ho (And.intro hAv (And.intro hx hdx))))
       have sS:=hid (fun (V:World) (K:Kept w7 V) => show (fun w':World => w'.cell? ⟨b1,o1 + i,none⟩ = some (.int .i64 (R i:Int))∧w'.cell? ⟨b2,o2 + j,none⟩ = some (.int .i64 (C j:Int))∧w'.cell? ⟨mb,mf + R i,none⟩ = some (.slice (some ⟨b3,o3,none⟩) n rc)∧w'.cell? ⟨b3,o3 + C j * 2,none⟩ = some (.bool s)∧w'.cell? ⟨b3,o3 + C j * 2 + 1,none⟩ = some (.slice zo zk9 zc)) V from ⟨HI.out.1 i hin V K,HI.out.2.1 j hjn V K,HI.out.2.2.1 V K,(hcb2 V K).1,(hcb2 V K).2⟩)
       have KT:Kept w10 w10.drew:=(Kept.refl _).drew
       have y0:=HI.out.1 i hin w10 K7
       have y1:=HI.out.2.1 j hjn w10 K7
       clear hcb hcb2 hdx ho hAv hx K7
       --%L
       go_upto_region 26 with fail
       clear y0 y1
       refine region_z 16 (S:=fun w' => w'.cell? ⟨b1,o1 + i,none⟩ = some (.int .i64 (R i:Int))∧w'.cell? ⟨b2,o2 + j,none⟩ = some (.int .i64 (C j:Int))∧w'.cell? ⟨mb,mf + R i,none⟩ = some (.slice (some ⟨b3,o3,none⟩) n rc)∧w'.cell? ⟨b3,o3 + C j * 2,none⟩ = some (.bool s)∧w'.cell? ⟨b3,o3 + C j * 2 + 1,none⟩ = some (.slice zo zk9 zc)) (by kernel_rfl) (sS.out _ (H10.out.1.trans KT)) (fun hHeld => ?_)
       generalize w10.drew = Wd at KT hHeld ⊢
       refine zk 0 hHeld ?_
       refine zk 1 hHeld ?_
       refine zk 2 hHeld ?_
       refine zk 3 hHeld ?_
       refine zk 4 hHeld ?_
       refine zk 5 hHeld ?_
       refine zk 6 hHeld ?_
       refine zk 7 hHeld ?_
       refine zk 8 hHeld ?_
       refine zk 9 hHeld ?_
       refine zk 10 hHeld ?_
       refine zk 11 hHeld ?_
       refine zk 12 hHeld ?_
       refine zk 13 hHeld ?_
       have hw1:w9.heap.size≤Wd.heap.size:=(U.out.1.trans KT).size
       refine zr 14 fun K9 hK => ?_
       --%M
       go_simp
       have rT:=RowL.alloc 51 Wd [.bool s,.slice zo zk9 zc]
       have kA:=KT.alloc (.cells #[.bool s,.slice zo zk9 zc] 51)
       refine hK.out _ _ (sS.out _ (H10.out.1.trans kA)) (fun hHeld => ?_)
       clear hK
       obtain ⟨tt,htt⟩:∃ p,p = Wd.heap.size:=⟨_,rfl⟩
       rw [← htt] at rT ⊢
       generalize Wd.alloc (.cells #[.bool s,.slice zo zk9 zc] 51) = Wa at rT kA hHeld ⊢
       have hO:Wa.ownsRow w9.heap.size 51 2 u15 j xs:=own_keptK H10.out.2.1 kA
       have hsz:w9.heap.size≤Wa.heap.size:=(U.out.1.trans kA).size
       have hd:DX (fun q => u13.ownBlock = some q ∨ u15.ownBlock = some q) 144 Wa s (.slice zo zk9 zc) (F' i j):=by
        rw [HF'.out]
        refine (H10.out.2.2.2.2.add.kept (H10.out.1.trans kA)).mono (fun q hq => .inr ?_) (Nat.le_refl _)
        have h1:=J.out.size
        have h2:=I.out.1.size
        rcases hq with hq | hq
        ·
         have:=HA.out q hq; omega
        ·
         have:=World.ownsRow.lt H10.out.2.1 q hq; omega
       refine zr 15 fun K9 hK => ?_
       --%N
       refine wp_append_lies _ (.tmp 115) (.tmp 129) 52 rfl w9.heap.size 51 i0 (.agg #[.bool false,.slice none 0 0]) 2 32 und_rns hi0 hz0 hz1 hz2 rfl (by decide) u15 j xs rfl hO ⟨tt,0,none⟩ 1 1 [.bool s,.slice zo zk9 zc] rfl rfl (row_news4 rT) (by simp [Value.oneCell']) (by omega) (by unfold maxLen; omega) (by omega) hsz _ rfl ?_
       intro G cap6 wb hO6 hgr hG _
       have hP:=NO.snoc (A:=fun q => u13.ownBlock = some q) (zs:=F' i) (fun q hq => Nat.lt_of_lt_of_le (HA.out q hq).2 hsz) xs H10.out.2.1.1 H10.out.2.2.1 (fun r hr => by
        obtain ⟨s,ao,m,c,e1,e2,e3⟩:=H10.out.2.2.2.1 r hr
        exact ⟨s,ao,m,c,e1,e2,e3.kept kA⟩) hd hO6 hgr hG
       have KW2:Kept w9 wb:=Below.grown (U.out.1.trans kA) hgr hsz (fun q hq => (World.ownsRow.lt hO q hq).1)
       have HP:=hid (And.intro KW2 hP)
       refine hK.out _ _ (sS.out _ (J.out.trans (I.out.1.trans KW2))) (fun hHeld => ?_)
       clear hK hP hO hO6 hgr hG rT kA KW2 htt hd KT
       refine X.zl fun K9 hK => ?_
       --%O
       go_simp
       refine hK.out _ _ ?_
       clear hK
       refine zd ?_
       --%P
       go_wp2_with fail
       go_roundw
       case rel => exact ⟨j + 1,by omega,by go_num,HP.out⟩
       case measure => show k + 1 - ((j:Int) + 1).toNat < k + 1 - (j:Int).toNat; omega
      ·
       have hjj:¬ (j:Int)≤(k:Int):=by omega
       obtain rfl:j = k + 1:=by omega
       obtain ⟨hs,ho,hx⟩:=I.out.2.kept U.out.1
       have hrdx:=U.out.2.rdx
       obtain ⟨la,lc,e⟩:=hrdx.shape
       subst e
       have H10:=hid (And.intro (I.out.1.trans U.out.1) (And.intro ho (And.intro hx hrdx)))
       have hws:w8.heap.size≤w10.heap.size:=(I.out.1.trans U.out.1).size
       clear ho hx hrdx
       --%Q
       go_wp2_with (at_builtin; refine wpList_append_lies _ rfl (.tmp 131) (.tmp 133) 45 rfl w8.heap.size 52 i1 (.slice none 0 0) 1 24 und_rnss hi1 hy0 hy1 hy2 rfl (by decide) u13 i hs rfl (by exact World.ownsRow.alloc H10.out.2.1 _) ⟨w10.heap.size,0,none⟩ 1 1 [.slice la (k + 1) lc] rfl rfl (cell1 w10 _ _) (fun u hu => by simp at hu; rcases hu with rfl; rfl) (by omega) (by unfold maxLen; omega) (by omega) (by simp; omega) _ rfl ?_)
       intro G cap2 w11 hO hgr hG _
       have kA:=(Kept.refl w10).alloc (.cells #[.slice la (k + 1) lc] 52)
       have hOw:=World.ownsRow.alloc H10.out.2.1 (.cells #[.slice la (k + 1) lc] 52)
       have hG:u13.ownBlock = some G ∨ G = (w10.alloc (.cells #[.slice la (k + 1) lc] 52)).heap.size:=hG.imp id fun e => by rw [World.size_alloc]; exact e
       generalize w10.alloc (.cells #[.slice la (k + 1) lc] 52) = W5 at kA hgr hOw hG
       have KW:Kept w8 w11:=Below.grown (H10.out.1.trans kA) hgr (H10.out.1.trans kA).size (fun q hq => (World.ownsRow.lt hOw q hq).1)
       have HNn:=hid (And.intro KW (MO.snoc (F:=F') hs (by have:=H10.out.2.1.1; omega) (fun r hr => by
        obtain ⟨ra,rc,e1,e2⟩:=H10.out.2.2.1 r hr
        exact ⟨ra,rc,e1,e2.kept kA⟩) (H10.out.2.2.2.kept kA) hO hgr hG))
       clear kA hOw hgr hO KW hG
       --%R
       go_wp2_with fail
       go_roundw
       case rel => exact ⟨i + 1,by omega,by go_num,HNn.out⟩
       case measure => show k + 1 - ((i:Int) + 1).toNat < k + 1 - (i:Int).toNat; omega
    ·
     have hii:¬ (i:Int)≤(k:Int):=by omega
     obtain rfl:i = k + 1:=by omega
     have hmn:=I.out.2.mn
     obtain ⟨qo,qc,e⟩:=hmn.shape
     subst e
     have K9:=J.out.trans I.out.1
     obtain ⟨pg,s,ao1,k1,c1',hpo,hpg,x0,x1,hzn,_⟩:=(SdX.kept H7.out.2.2.1 (EN.keeps _) K9).at hkt
     subst hpo
     have HZ:=hid (And.intro hmn (And.intro hzn.zi (And.intro (H7.out.1.trans K9) hpg.2)))
     have sS:=hid (fun (V:World) (K:Kept w9 V) => show (fun w':World => w'.cell? ⟨pg,k * 2,none⟩ = some (.bool s)∧w'.cell? ⟨pg,k * 2 + 1,none⟩ = some (.slice ao1 k1 c1')) V from ⟨(Below.cell K (p:=⟨pg,k * 2,none⟩) HZ.out.2.2.2).trans x0,(Below.cell K (p:=⟨pg,k * 2 + 1,none⟩) HZ.out.2.2.2).trans x1⟩)
     have KT:Kept w9 w9.drew:=(Kept.refl _).drew
     have hz:∀ z:Int,((z:Int):Rat) = Ba.det (k + 1) (cast F')→pivF (matF L) ps k = z:=fun z hz => by
      have h1:=piv_det HF.out.2.1 (show k < ps.length by rw [HF.out.2.2]; exact hkt)
      rw [HF'.out,HRC.out.2.1,HRC.out.2.2] at hz
      exact Rat.intCast_inj.1 (h1.trans hz.symm)
     have HEq:=hid hz
     clear hmn K9 hzn hpg x0 x1 hz
     --%S
     go_upto_region 28 with fail
     refine wp_region_held_drew (S:=fun w' => w'.cell? ⟨pg,k * 2,none⟩ = some (.bool s)∧w'.cell? ⟨pg,k * 2 + 1,none⟩ = some (.slice ao1 k1 c1')) (by kernel_rfl) (sS.out _ KT) (fun hHeld => ?_)
     generalize w9.drew = Wd at KT hHeld ⊢
     refine wk 0 hHeld ?_
     refine wk 1 hHeld ?_
     refine wk 2 hHeld ?_
     refine wk 3 hHeld ?_
     refine wk 4 hHeld ?_
     refine wpAnyH_ready (rs:=[5]) (by kernel_rfl) (by simp) ?_
     refine AllReadyH.cons rfl (fun K hK => ?_) AllReadyH.nil
     --%T
     go_simp
     refine (det14_any qo (k + 1) qc F' Wd (HZ.out.1.kept KT) (by omega)).mono ?_
     rintro e u1 ⟨hu1,hD⟩
     obtain ⟨sd,ao2,k2,c2',z,rfl,hzi,hzd,hk2⟩:=hD
     refine hK.out _ _ (sS.out _ (KT.trans hu1)) (fun hHeld => ?_)
     clear hK K
     have KT:=KT.trans hu1
     have HD:=hid (And.intro hzi (HEq.out z hzd))
     clear hu1 hzi hzd
     refine wpAnyH_ready (rs:=[6]) (by kernel_rfl) (by simp) ?_
     refine AllReadyH.cons rfl (fun K hK => ?_) AllReadyH.nil
     --%U
     go_simp
     refine (give_zi sd ao2 k2 c2' z u1 HD.out.1 hk2 (by obtain ⟨l,_,hr,hi⟩:=HZ.out.2.1; exact ⟨_,l,hr,by rw [hi,HD.out.2]⟩)).mono ?_
     rintro e u2 ⟨hu2,ao3,k3,c3',rfl,hzg⟩
     refine hK.out _ _ (sS.out _ (KT.trans hu2)) (fun hHeld => ?_)
     clear hK K
     have KT:=KT.trans hu2
     have HG:=hid hzg
     clear hu2 hzg
     refine wpAnyH_ready (rs:=[7]) (by kernel_rfl) (by simp) ?_
     refine AllReadyH.cons rfl (fun K hK => ?_) AllReadyH.nil
     --%V
     go_simp
     refine (same_eq14 s sd ao1 ao3 k1 c1' k3 c3' _ _ u2 (HZ.out.2.1.kept KT) HG.out HD.out.2).mono ?_
     rintro e u3 ⟨hu3,rfl⟩
     refine hK.out _ _ (sS.out _ (KT.trans hu3)) (fun hHeld => ?_)
     clear hK K
     have KU:=hid (J.out.trans (I.out.1.trans (KT.trans hu3)))
     clear KT hu3
     refine wk 8 hHeld ?_
     refine wpAnyH_done (by kernel_rfl) ?_ _
     --%W
     go_wp2_with fail
     go_roundw
     case rel => exact ⟨k + 1,by omega,by go_num,KU.out⟩
     case measure => show n - ((k:Int) + 1).toNat < n - (k:Int).toNat; omega
  ·
   have hkk:¬ (k:Int) < (n:Int):=by omega
   --%X
   go_wp2_with fail
   go_ret
   exact ⟨H7.out.1.trans J.out,rfl⟩
end Bp
end Go.Proofs.YtdcfammglpebaaaGreat
