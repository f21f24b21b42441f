/- shuntlaw14.BareissDet: its walk. -/
import Derived.Test.YtdcfammglpebaaaGreatDt7
import Derived.Test.YtdcfammglpebaaaGreatRquo
import Derived.Test.YtdcfammglpebaaaGreatGax
import Derived.Test.YtdcfammglpebaaaGreatGan
namespace Go.Proofs.YtdcfammglpebaaaGreat
open Go.RowKit
open V (RowL RowL.alloc RowL.lt RowL.cell RowL.fz RowL.kept RowL.set RowL.far)
open Sp (hid)
open Sy
open Bm (ZI ZI.kept ZI.of MxR ZsR mxr_at mxr_kept zsr_at zsr_kept mOk)
open Ba (stg lastP pivs facS Fits)
namespace Bp
theorem give_zi (m:Bool) (ao:Option Addr) (k cap:Nat) (z:Int) (w:World) (h:D.NIs w m (.slice ao k cap) z) (hk:k≤7000) (hr:∃ s l,M.Right s l∧M.int s l = z) :
  Calls Tryz.prog 16 #[.agg #[.bool m,.slice ao k cap]] w fun e w' => Kept w w'∧∃ ao' n' cap',e = .returned (.agg #[.bool m,.slice ao' n' cap'])∧ZI w' m (.slice ao' n' cap') z:=by
 refine (D.Give_int m ao k cap z w h (by omega)).mono ?_
 rintro e w' ⟨h1,ao',n',cap',l,rfl,hn,ht,hv,hl⟩
 refine ⟨h1,ao',n',cap',rfl,l,hn.sl,?_,hv⟩
 obtain ⟨s,l2,hR,hi⟩:=hr
 have hvv:M.val l = M.val l2:=by
  have e:M.int m l = M.int s l2:=hv.trans hi.symm
  unfold M.int at e
  cases m <;> cases s <;> simp at e <;> omega
 have hll:=M.val_inj hn.sl.bd hR.bd ht hR.tr hvv
 subst hll
 refine ⟨hR.bd,hR.tr,hR.len,hl⟩
set_option maxRecDepth 100000 in
set_option maxHeartbeats 40000000 in
theorem detl14_any (ao:Option Addr) (n cap:Nat) (limbs:Int) (L:List LE) (w:World) (h:MxR w ao L) (hl:n = L.length) (hn:n≤1000000000000000) (hs:∀ r ∈ L,r.cs.length≤1000000000000000) (hl1:-9223372036854775808≤limbs) (hl2:limbs≤9223372036854775807) :
  Calls Tryz.prog 4 #[.slice ao n cap,.int .i64 limbs] w fun e w' => Kept w w'∧e = .returned (.bool true):=by
 have HL:=hid (And.intro h (And.intro hl hs))
 clear h hl hs
 go_enter Tryz.func4,Tryz.ntmps4
 go_wp2_with fail
 refine (awake14_any w).mono ?_
 rintro e w1 ⟨K1,rfl⟩
 have HK:=hid K1
 clear K1
 --%A
 go_wp2_with fail
 refine (Bm.heavy_any ao none n cap 0 0 L [] w1 (mxr_kept HL.out.1 HK.out) (fun h => absurd h (Nat.not_lt_zero _)) HL.out.2.1 rfl hn (by omega) HL.out.2.2).mono ?_
 rintro e w2 ⟨hk,bb,rfl,hlt⟩
 have HK:=hid (HK.out.trans hk)
 have HLt:=hid hlt
 clear hk hlt
 cases bb with
 | true =>
  go_wp2_with fail
  go_ret
  exact ⟨HK.out,rfl⟩
 | false =>
 have hLt:=HLt.out rfl
 have hn61:n≤61:=by rw [HL.out.2.1]; exact hLt.1
 have HSz:=hid (fun l (hl:l ∈ L) => (hLt.2.1 l hl).1)
 clear hLt HLt hn
 --%B
 go_wp2_with fail
 refine (Bm.fault_any ao n cap L w2 (mxr_kept HL.out.1 HK.out) HL.out.2.1 (by omega) (fun l hl => Nat.le_trans (HSz.out l hl) (by decide))).mono ?_
 rintro e w3 ⟨hk,rfl⟩
 have HK:=hid (HK.out.trans hk)
 clear hk
 by_cases hok:mOk L = true
 rotate_left
 ·
  rw [if_neg hok]
  go_wp2_with fail
  go_ret
  exact ⟨HK.out,rfl⟩
 rw [if_pos hok]
 have HOk:=hid hok
 have hn48:n≤48:=by
  unfold mOk at hok
  rw [Bool.and_eq_true,decide_eq_true_eq] at hok
  rw [HL.out.2.1]
  exact hok.1
 clear hok hn61
 --%C
 go_wp2_with fail
 refine (square14_any ao n cap L w3 (mxr_kept HL.out.1 HK.out) HL.out.2.1 HOk.out).mono ?_
 rintro e w5 ⟨hk,sqo,sqc,rfl,hsq⟩
 have H5:=hid (And.intro (HK.out.trans hk) hsq)
 clear hk hsq
 --%D
 go_wp2_with fail
 refine (det14_any sqo n sqc (matF L) w5 H5.out.2 hn48).mono ?_
 rintro e w6 ⟨hk,hD⟩
 obtain ⟨sd,ao1,k1,c1,z,rfl,hz,hzd,hk1⟩:=hD
 have rD:=RowL.alloc 51 w6 [.bool sd,.slice ao1 k1 c1]
 have kD:=(Kept.refl w6).alloc (.cells #[.bool sd,.slice ao1 k1 c1] 51)
 have H6:=hid (And.intro (H5.out.1.trans (hk.trans kD)) (And.intro rD (And.intro (hz.kept kD) hzd)))
 clear hk hz hzd rD kD
 --%E
 go_upto_region 6 with fail
 generalize w6.alloc (.cells #[.bool sd,.slice ao1 k1 c1] 51) = w7 at H6 ⊢
 obtain ⟨p5,hp⟩:∃ p,p = w6.heap.size:=⟨_,rfl⟩
 rw [← hp] at H6 ⊢
 clear hp
 go_wp2_with fail
 refine (new_any ao n cap limbs L w7 (mxr_kept HL.out.1 H6.out.1) HL.out.2.1 (fun l hl => Nat.le_trans (HSz.out l hl) (by decide)) (by omega) hl1 hl2).mono ?_
 rintro e w8 ⟨hk,⟨h1,_⟩ | ⟨_,h1,rfl⟩ | ⟨_,hlim,ps,er,hs,hf,hx⟩⟩
 ·
  rw [HOk.out] at h1; cases h1
 ·
  have HK:=hid (H6.out.1.trans hk)
  clear hk
  by_cases hlo:limbs < 1
  ·
   --%F
   go_wp2_with fail
   go_ret
   exact ⟨HK.out,rfl⟩
  ·
   have hhi:32 < limbs:=by omega
   --%G
   go_wp2_with fail
   go_ret
   exact ⟨HK.out,rfl⟩
 have H8:=hid (And.intro (H6.out.1.trans hk) (And.intro (H6.out.2.1.kept hk) (And.intro (H6.out.2.2.1.kept hk) hf)))
 have d0:=H8.out.2.1.cell 0 _ rfl
 have d1:=H8.out.2.1.cell 1 _ rfl
 obtain ⟨qs,e9,h9,_,g9⟩:=Ba.fac_is (n:=n) (limbs:=limbs.toNat) (M:=matF L)
 rw [hs] at h9
 cases h9
 rcases hx with ⟨hne,rfl⟩ | ⟨h0,fb,sa,sk,sc,Ss,rfl,hF⟩
 ·
  rcases g9 with ⟨rfl,_⟩ | ⟨rfl,a1,_,z1⟩ | ⟨rfl,_⟩
  ·
   exact absurd rfl hne
  ·
   have hz0:z = 0:=by
    have h10:=H6.out.2.2.2
    rw [Ba.fac_singular hf a1 z1] at h10
    exact Rat.intCast_inj.1 h10
   have hsg:isgn z 0 = 0:=by rw [hz0]; decide
   have HSg:=hid hsg
   clear hs hf hk hsg hz0 a1 z1
   --%H
   go_wp2_with fail
   refine (D.Sign_any sd ao1 k1 c1 z w8 H8.out.2.2.1 (by omega)).mono ?_
   rintro e w9 ⟨rfl,hk9⟩
   rw [HSg.out]
   have HK:=hid (H8.out.1.trans hk9)
   clear hk9 d0 d1
   --%I
   go_wp2_with fail
   go_ret
   exact ⟨HK.out,rfl⟩
  ·
   have hlo:¬ limbs < 1:=by omega
   have hlo':(1:Int)≤limbs:=hlim.1
   have hhi:limbs≤32:=hlim.2
   clear hs hf hk hne d0 d1
   --%J
   go_wp2_with fail
   go_ret
   exact ⟨H8.out.1,rfl⟩
 ·
  subst h0
  have hpl:=fac0_len hs
  have hsk:sk = n:=by rw [hF.len,hpl]
  rw [hsk] at hF
  have hdet:=detP_det hf hpl
  have hzD:z = detP (matF L) ps n:=Rat.intCast_inj.1 (H6.out.2.2.2.trans hdet.symm)
  have hlast:=Ba.last_ne hf.piv
  have hznz:z ≠ 0:=fun e => by
   rw [hzD] at e
   unfold detP at e
   split at e <;> omega
  have hsg:isgn z 0 ≠ 0:=by
   unfold isgn
   split
   ·
    decide
   ·
    first | decide | (rw [if_neg hznz]; decide)
  obtain ⟨sg,hsgd⟩:∃ x,x = isgn z 0:=⟨_,rfl⟩
  have e1:sg ≠ 0:=by rw [hsgd]; exact hsg
  have e2:(sg == 0) = false:=by simpa using e1
  have e3:(sg != 0) = true:=by simp [bne,e2]
  have HF:=hid (And.intro hF (And.intro hlast (And.intro hzD hsgd)))
  have sS:=hid (fun (V:World) (K:Kept w8 V) => show (fun w':World => w'.cell? ⟨p5,0,none⟩ = some (.bool sd)∧w'.cell? ⟨p5,1,none⟩ = some (.slice ao1 k1 c1)) V from ⟨(H8.out.2.1.kept K).cell 0 _ rfl,(H8.out.2.1.kept K).cell 1 _ rfl⟩)
  have KT:Kept w8 w8.drew:=(Kept.refl _).drew
  rw [hpl]
  clear hs hf hk hF hlast hzD hznz hsg hdet d0 d1 hpl hsgd e1 hsk
  --%K
  go_upto_region 9 with fail
  refine wp_region_held_drew (S:=fun w' => w'.cell? ⟨p5,0,none⟩ = some (.bool sd)∧w'.cell? ⟨p5,1,none⟩ = some (.slice ao1 k1 c1)) (by kernel_rfl) (sS.out _ KT) (fun hHeld => ?_)
  generalize w8.drew = Wd at KT hHeld ⊢
  refine wk 0 hHeld ?_
  refine wk 1 hHeld ?_
  refine wk 2 hHeld ?_
  refine wk 3 hHeld ?_
  refine wpAnyH_ready (rs:=[4]) (by kernel_rfl) (by simp) ?_
  refine AllReadyH.cons rfl (fun K hK => ?_) AllReadyH.nil
  --%L
  go_simp
  refine (D.Sign_any sd ao1 k1 c1 z Wd (H8.out.2.2.1.kept KT) (by omega)).mono ?_
  rintro e u1 ⟨rfl,hu1⟩
  rw [← HF.out.2.2.2]
  refine hK.out _ _ (sS.out _ (KT.trans hu1)) (fun hHeld => ?_)
  clear hK K
  have KT:=KT.trans hu1
  clear hu1
  refine wk 5 hHeld ?_
  refine wk 6 hHeld ?_
  refine wk 7 hHeld ?_
  refine wk 8 hHeld ?_
  refine wk 10 hHeld ?_
  refine wpAnyH_ready (rs:=[9]) (by kernel_rfl) (by simp) ?_
  refine AllReadyH.cons rfl (fun K hK => ?_) AllReadyH.nil
  --%M
  go_simp
  refine (det_any _ fb n limbs.toNat sa n sc Ss (matF L) ps u1 (HF.out.1.kept KT) HF.out.2.1 hn48).mono ?_
  rintro e u2 ⟨hu2,s2,o2,k2,c2,rfl,hzn⟩
  refine hK.out _ _ (sS.out _ (KT.trans hu2)) (fun hHeld => ?_)
  clear hK K
  have KT:=KT.trans hu2
  have HZ:=hid hzn.zi
  clear hu2 hzn
  refine wpAnyH_ready (rs:=[11]) (by kernel_rfl) (by simp) ?_
  refine AllReadyH.cons rfl (fun K hK => ?_) AllReadyH.nil
  --%N
  go_simp
  refine (give_zi sd ao1 k1 c1 z u2 (H8.out.2.2.1.kept KT) hk1 (by obtain ⟨l,_,hr,hi⟩:=HZ.out; exact ⟨_,l,hr,by rw [hi,HF.out.2.2.1]⟩)).mono ?_
  rintro e u3 ⟨hu3,o3,k3,c3,rfl,hzg⟩
  refine hK.out _ _ (sS.out _ (KT.trans hu3)) (fun hHeld => ?_)
  clear hK K
  have KT:=KT.trans hu3
  have HG:=hid (And.intro (HZ.out.kept hu3) hzg)
  clear hu3 hzg
  refine wpAnyH_ready (rs:=[12]) (by kernel_rfl) (by simp) ?_
  refine AllReadyH.cons rfl (fun K hK => ?_) AllReadyH.nil
  --%O
  go_simp
  refine (same_eq14 s2 sd o2 o3 k2 c2 k3 c3 _ _ u3 HG.out.1 HG.out.2 HF.out.2.2.1.symm).mono ?_
  rintro e u4 ⟨hu4,rfl⟩
  refine hK.out _ _ (sS.out _ (KT.trans hu4)) (fun hHeld => ?_)
  clear hK K
  have KU:=hid (H8.out.1.trans (KT.trans hu4))
  clear KT hu4
  refine wk 13 hHeld ?_
  refine wk 14 hHeld ?_
  refine wpAnyH_done (by kernel_rfl) ?_ _
  --%P
  go_wp2_with fail
  go_ret
  exact ⟨KU.out,rfl⟩
end Bp
end Go.Proofs.YtdcfammglpebaaaGreat
