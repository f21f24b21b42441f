/- shuntlaw14.BareissOrder: its walk. (mk_bf4.py) -/
import Derived.Test.YtdcfammglpebaaaGreatBf7
import Derived.Test.YtdcfammglpebaaaGreatBf8
import Derived.Test.YtdcfammglpebaaaGreatBf9
import Derived.Test.YtdcfammglpebaaaGreatGaw
import Derived.Test.YtdcfammglpebaaaGreatGam
import Derived.Test.YtdcfammglpebaaaGreatGam
import Derived.Test.YtdcfammglpebaaaGreatGad
namespace Go.Proofs.YtdcfammglpebaaaGreat
open Go.RowKit
open V (RowL RowL.alloc RowL.lt RowL.cell RowL.fz RowL.kept RowL.set RowL.far)
open Sp (hid vrow vrow_at own_kept own_keptK own_shape own_cell info_parts wpList_src own_none)
open Sy
open Bm (ZI ZI.kept ZI.of MxR ZsR mxr_at mxr_kept zsr_at zsr_kept mOk)
open Ba (stg lastP pivs facS Fits tr2)
namespace Bp
set_option maxRecDepth 100000 in
set_option maxHeartbeats 80000000 in
theorem order14_any (ao bo yo:Option Addr) (n cap nb capb ny capy:Nat) (L:List LE) (Bs:List ZE) (Ys:List Int) (w:World) (h:MxR w ao L) (hb:ZsR w bo Bs) (hy:Sp.ISl w (.slice yo ny capy) Ys) (hl:n = L.length) (hlb:nb = Bs.length) (hn:n≤1000000000000000) (hnb:nb≤1000000000000000) (hs:∀ r ∈ L,r.cs.length≤1000000000000000) (hny:ny≤9223372036854775807) (hyr:∀ x ∈ Ys,-9223372036854775808≤x∧x≤9223372036854775807) :
  Calls Tryz.prog 6 #[.slice ao n cap,.slice bo nb capb,.slice yo ny capy] w fun e w' => Kept w w'∧e = .returned (.bool true):=by
 have hly:=Sp.ISl.len hy
 have HL:=hid (And.intro h (And.intro hb (And.intro hl (And.intro hlb hs))))
 have HY:=hid (And.intro hy (And.intro hly hyr))
 clear h hb hy hl hlb hs hly hyr
 obtain ⟨i2,hu,hu0,hu1,hu2⟩:=info_parts info_zi
 go_enter Tryz.func6,Tryz.ntmps6
 go_wp2_with fail
 refine (awake14_any w).mono ?_
 rintro e w1 ⟨K1,rfl⟩
 have HK:=hid K1
 clear K1
 --%A
 go_wp2_with fail
 refine (Bm.heavy_any ao bo n cap nb capb L Bs w1 (mxr_kept HL.out.1 HK.out) (zsr_kept HL.out.2.1 HK.out) HL.out.2.2.1 HL.out.2.2.2.1 hn hnb HL.out.2.2.2.2).mono ?_
 rintro e w2 ⟨hk,bb,rfl,hlt⟩
 have HK:=hid (HK.out.trans hk)
 have HLt:=hid hlt
 clear hk hlt
 cases bb with
 | true =>
  go_wp2_with fail
  go_ret
  exact ⟨HK.out,rfl⟩
 | false =>
 have hLt:=HLt.out rfl
 have hn61:n≤61:=by rw [HL.out.2.2.1]; exact hLt.1
 have HSz:=hid (fun l (hl:l ∈ L) => (hLt.2.1 l hl).1)
 clear hLt HLt hn
 --%B
 go_wp2_with fail
 refine (Bm.fault_any ao n cap L w2 (mxr_kept HL.out.1 HK.out) HL.out.2.2.1 (by omega) (fun l hl => Nat.le_trans (HSz.out l hl) (by decide))).mono ?_
 rintro e w3 ⟨hk,rfl⟩
 have HK:=hid (HK.out.trans hk)
 clear hk
 by_cases hok:mOk L = true
 rotate_left
 ·
  rw [if_neg hok]
  go_wp2_with fail
  go_ret
  exact ⟨HK.out,rfl⟩
 rw [if_pos hok]
 have HOk:=hid hok
 have hn48:n≤48:=by
  unfold mOk at hok
  rw [Bool.and_eq_true,decide_eq_true_eq] at hok
  rw [HL.out.2.2.1]
  exact hok.1
 clear hok hn61
 by_cases hbn:nb = n
 rotate_left
 ·
  have e1:¬ (nb:Int) = (n:Int):=by omega
  have e2:((nb:Int) == (n:Int)) = false:=by simpa using e1
  have e3:((nb:Int) != (n:Int)) = true:=by simp [bne,e2]
  --%C
  go_wp2_with fail
  go_ret
  exact ⟨HK.out,rfl⟩
 subst hbn
 by_cases hn0:nb = 0
 ·
  have e1:(nb:Int) = 0:=by omega
  have e2:((nb:Int) == 0) = true:=by simp [e1]
  --%C1
  go_wp2_with fail
  go_ret
  exact ⟨HK.out,rfl⟩
 have e1:¬ (nb:Int) = 0:=by omega
 have e2:((nb:Int) == 0) = false:=by simpa using e1
 by_cases hy3:ny < 3
 ·
  have e3:(ny:Int) < 3:=by omega
  --%C2
  go_wp2_with fail
  go_ret
  exact ⟨HK.out,rfl⟩
 have e3:¬ (ny:Int) < 3:=by omega
 have hpos:0 < nb:=by omega
 have hszs:∀ r ∈ L,r.cs.length≤60∧∀ c ∈ r.cs,c.val.lim.length≤600:=fun r hr => ⟨HSz.out r hr,fun c hc => by
  obtain ⟨i,hi,rfl⟩:=List.getElem_of_mem hr
  have h1:=mOk_row HOk.out i
  rw [getD_in hi] at h1
  have h2:=(cOk_iff.1 h1).1 c hc
  have:=(right_R.1 h2.2.2.1).1
  omega⟩
 --%D
 go_wp2_with fail
 refine (copied_any ao nb cap L w3 (mxr_kept HL.out.1 HK.out) HL.out.2.2.1 (by omega) hszs).mono ?_
 rintro e w4 ⟨g,hs0,C0,rfl,hCp⟩
 have hsrc:=zsr_src (zsr_kept (zsr_kept HL.out.2.1 (HK.out.trans hCp.kept)) ((Kept.refl w4).alloc (.cells #[] 37)))
 have hsz4:w3.heap.size≤w4.heap.size:=hCp.kept.size
 have HCp:=hid hCp
 clear hCp hszs e1 e2 e3
 --%E
 go_wp2_with (at_builtin; refine wpList_src rfl (.tmp 52) (.tmp 53) 23 rfl w3.heap.size 37 i2 (.agg #[.bool false,.slice none 0 0]) 2 32 und_zi hu hu0 hu1 hu2 rfl (by decide) w4.heap.size rfl (own_none 37 2 w4 w3.heap.size hsz4) bo nb capb (Bs.flatMap ZE.cells) rfl (by rw [flat2_len,← HL.out.2.2.2.1]) (fun h0 => hsrc (by rw [← HL.out.2.2.2.1]; exact h0)) (flat2_one Bs) (by unfold maxLen; omega) (by omega) (by rw [alloc_sz]; omega) ?_)
 intro gc cc w5 hO5 hgr5
 have K45:Kept w4 w5:=X.kept_grown ((Kept.refl w4).alloc (.cells #[] 37)) hgr5 (Nat.le_refl _)
 have hkey:∀ j,j < nb→(C0 j).map keyE = (L.getD j l0).cs.map keyE:=fun j hj => by rw [HCp.out.keys j hj]; unfold kC; rw [if_pos hj]
 have hBsok:∀ x ∈ Bs,x.ok w3:=fun x hx => by
  obtain ⟨i,hi,rfl⟩:=List.getElem_of_mem hx
  obtain ⟨_,_,_,_,_,ho⟩:=LR.at (zsr_kept HL.out.2.1 HK.out) hi
  exact ho
 have HO:=hid (show OS w3 w5 w3.heap.size g nb hs0 C0 gc cc Bs from ⟨HCp.out.kept.trans K45,Nat.le_refl _,HCp.out.grid.kept K45,fun j hj x hx => (HCp.out.own j hj x hx).kept K45,hO5,fun x hx => .inl (hBsok x hx)⟩)
 have HKey:=hid (And.intro hkey hBsok)
 clear hO5 hgr5 K45 hkey hBsok hsrc HCp hsz4
 obtain ⟨yb,yf,rfl,_⟩:=HY.out.1.at (show 0 < Ys.length by have:=HY.out.2.1; omega)
 have hY:∀ j,j < ny→∀ V,Kept w V→V.cell? ⟨yb,yf + j,none⟩ = some (.int .i64 (Ys.getD j 0)):=fun j hj V K => by
  obtain ⟨b',f',e,hc⟩:=HY.out.1.at (show j < Ys.length by have:=HY.out.2.1; omega)
  cases e
  exact hc V K
 have hYr:∀ j,j < ny→-9223372036854775808≤Ys.getD j 0∧Ys.getD j 0≤9223372036854775807:=fun j hj => by
  have:=HY.out.2.1
  rw [List.getD_eq_getElem?_getD,List.getElem?_eq_getElem (by omega)]
  exact HY.out.2.2 _ (List.getElem_mem _)
 obtain ⟨y0,hy0⟩:∃ y,y = Ys.getD 0 0:=⟨_,rfl⟩
 obtain ⟨y1,hy1⟩:∃ y,y = Ys.getD 1 0:=⟨_,rfl⟩
 obtain ⟨y2,hy2⟩:∃ y,y = Ys.getD 2 0:=⟨_,rfl⟩
 have HYc:=hid (show ∀ V,Kept w3 V→V.cell? ⟨yb,yf,none⟩ = some (.int .i64 y0)∧V.cell? ⟨yb,yf + 1,none⟩ = some (.int .i64 y1)∧V.cell? ⟨yb,yf + 2,none⟩ = some (.int .i64 y2) from fun V K => ⟨by have:=hY 0 (by omega) V (HK.out.trans K); rw [← hy0] at this; exact this,by rw [hy1]; exact hY 1 (by omega) V (HK.out.trans K),by rw [hy2]; exact hY 2 (by omega) V (HK.out.trans K)⟩)
 have HYr:=hid (And.intro (hYr 0 (by omega)) (And.intro (hYr 1 (by omega)) (hYr 2 (by omega))))
 rw [← hy0,← hy1,← hy2] at HYr
 clear hY hYr hy0 hy1 hy2 HY
 --%F
 go_upto_region 7 with fail
 go_cut [10,11] (fun v10 v11 wc => ∃ p q:Nat,p < nb∧q < nb∧v10 = .int .i64 (p:Int)∧v11 = .int .i64 (q:Int)∧Hid (Kept w5 wc))
 case first =>
  --%F1
  have hy0:(0:Int) < (ny:Int):=by omega
  have hy1:(1:Int) < (ny:Int):=by omega
  have hy0':0 < ny:=by omega
  have hy1':1 < ny:=by omega
  have KT:Kept w5 w5.drew:=(Kept.refl _).drew
  have sS:=hid (fun (V:World) (K:Kept w5 V) => show (fun w':World => w'.cell? ⟨yb,yf,none⟩ = some (.int .i64 y0)∧w'.cell? ⟨yb,yf + 1,none⟩ = some (.int .i64 y1)) V from ⟨(HYc.out V (HO.out.kept.trans K)).1,(HYc.out V (HO.out.kept.trans K)).2.1⟩)
  refine wp_region_held_drew (S:=fun w' => w'.cell? ⟨yb,yf,none⟩ = some (.int .i64 y0)∧w'.cell? ⟨yb,yf + 1,none⟩ = some (.int .i64 y1)) (by kernel_rfl) (sS.out _ KT) (fun hHeld => ?_)
  generalize w5.drew = Wd at KT hHeld ⊢
  refine wk 0 hHeld ?_
  refine wk 1 hHeld ?_
  refine wk 2 hHeld ?_
  refine wk 3 hHeld ?_
  refine wk 5 hHeld ?_
  refine wk 6 hHeld ?_
  refine wk 7 hHeld ?_
  refine wk 8 hHeld ?_
  refine wpAnyH_ready (rs:=[4]) (by kernel_rfl) (by simp) ?_
  refine AllReadyH.cons rfl (fun K hK => ?_) AllReadyH.nil
  go_simp
  refine (Bm.place14_any y0 nb Wd hpos (by omega) HYr.out.1.1 HYr.out.1.2).mono ?_
  rintro e u1 ⟨hu1,p,hp,rfl⟩
  refine hK.out _ _ (sS.out _ (KT.trans hu1)) (fun hHeld => ?_)
  clear hK K
  refine wpAnyH_ready (rs:=[9]) (by kernel_rfl) (by simp) ?_
  refine AllReadyH.cons rfl (fun K hK => ?_) AllReadyH.nil
  go_simp
  refine (Bm.place14_any y1 nb u1 hpos (by omega) HYr.out.2.1.1 HYr.out.2.1.2).mono ?_
  rintro e u2 ⟨hu2',q,hq,rfl⟩
  refine hK.out _ _ (sS.out _ ((KT.trans hu1).trans hu2')) (fun hHeld => ?_)
  clear hK K
  refine wk 10 hHeld ?_
  refine wk 11 hHeld ?_
  refine wpAnyH_done (by kernel_rfl) ?_ _
  go_wp2_with fail
  go_meet
  case rel => exact ⟨p,q,hp,hq,rfl,rfl,(KT.trans hu1).trans hu2'⟩
 case rest =>
 obtain ⟨p,q,hp,hq,rfl,rfl,H6⟩:=hcut
 generalize wc = w6 at H6 ⊢
 have hpn:(p:Int) < (nb:Int):=by omega
 have hqn:(q:Int) < (nb:Int):=by omega
 have hp0:(0:Int)≤(p:Int):=by omega
 have hq0:(0:Int)≤(q:Int):=by omega
 have HO:=hid (HO.out.later H6.out)
 clear H6
 obtain ⟨vpa,vpc,hvp⟩:=own_shape (HO.out.grid.own p hp)
 obtain ⟨vqa,vqc,hvq⟩:=own_shape (HO.out.grid.own q hq)
 obtain ⟨rlp,hrlp⟩:∃ r,r = (C0 p).length:=⟨_,rfl⟩
 obtain ⟨rl,hrl⟩:∃ r,r = (C0 q).length:=⟨_,rfl⟩
 rw [← hrlp] at hvp
 rw [← hrl] at hvq
 have HV:=hid (And.intro hvp (And.intro hvq (And.intro hrlp hrl)))
 have cP:=HO.out.grid.row.cell p _ (vrow_at hp)
 have cQ:=HO.out.grid.row.cell q _ (vrow_at hq)
 have fP:=HO.out.grid.row.fz p
 have fQ:=HO.out.grid.row.fz q
 rw [hvp] at cP
 rw [hvq] at cQ
 clear hvp hvq hrlp hrl
 --%G
 go_upto_region 8 with fail
 go_cut [7] (fun v7 wc => v7 = .slice (some ⟨g,0,none⟩) nb nb∧Hid (OS w3 wc w3.heap.size g nb (fun j => hs0 (tr2 p q j)) (fun j => C0 (tr2 p q j)) gc cc Bs))
 case first =>
  --%G1
  refine swap8 HO hp hq HV.out.1 HV.out.2.1 (fun _ _ _ _ _ _ _ _ _ _ _ _ _ _ w' hw => ?_)
  go_wp2_with fail
  go_meet
  case rel => exact ⟨rfl,hw⟩
 case rest =>
 obtain ⟨rfl,H7⟩:=hcut
 generalize wc = w7 at H7 ⊢
 clear cP cQ fP fQ HO
 have HO:=H7
 clear H7
 have hqB:q < Bs.length:=by rw [← HL.out.2.2.2.1]; exact hq
 have hpB:p < Bs.length:=by rw [← HL.out.2.2.2.1]; exact hp
 have hcell:∀ i (hi:i < Bs.length) (V:World),V.ownsRow w3.heap.size 37 2 (.slice (some ⟨gc,0,none⟩) nb cc) nb (Bs.flatMap ZE.cells)→V.cell? ⟨gc,i * 2,none⟩ = some (.bool Bs[i].neg)∧V.cell? ⟨gc,i * 2 + 1,none⟩ = some Bs[i].v:=fun i hi V ho => by
  have:=HL.out.2.2.2.1
  exact ⟨(ho.cellAt _ (by omega)).trans (flat2_at (q:=0) hi rfl),(ho.cellAt _ (by omega)).trans (flat2_at (q:=1) hi rfl)⟩
 obtain ⟨zp,hzp⟩:∃ z,z = Bs[p]:=⟨_,rfl⟩
 obtain ⟨zq,hzq⟩:∃ z,z = Bs[q]:=⟨_,rfl⟩
 have dP:=hcell p hpB w7 HO.out.cl
 have dQ:=hcell q hqB w7 HO.out.cl
 rw [← hzp] at dP
 rw [← hzq] at dQ
 obtain ⟨mp,zpo,zpc,zpl⟩:=zp
 obtain ⟨mq,zqo,zqc,zql⟩:=zq
 unfold ZE.v at dP dQ
 dsimp only at dP dQ
 obtain ⟨kp,hkp⟩:∃ k,k = zpl.length:=⟨_,rfl⟩
 obtain ⟨kq,hkq⟩:∃ k,k = zql.length:=⟨_,rfl⟩
 rw [← hkp] at dP
 rw [← hkq] at dQ
 obtain ⟨dP0,dP1⟩:=dP
 obtain ⟨dQ0,dQ1⟩:=dQ
 have HZ:=hid (And.intro hzp (And.intro hzq (And.intro hkp (And.intro hkq (And.intro hpB hqB)))))
 have fG:=HO.out.cl.frozenAt
 clear hzp hzq hkp hkq hcell
 --%H
 go_upto_region 9 with fail
 go_cut [8] (fun v8 wc => v8 = .slice (some ⟨gc,0,none⟩) nb cc∧Hid (OS w3 wc w3.heap.size g nb (fun j => hs0 (tr2 p q j)) (fun j => C0 (tr2 p q j)) gc cc ((Bs.set p ⟨mq,zqo,zqc,zql⟩).set q ⟨mp,zpo,zpc,zpl⟩)))
 case first =>
  --%H1
  refine swap9 HO hp hq HZ.out.2.2.2.2.1 HZ.out.2.2.2.2.2 HZ.out.1 HZ.out.2.1 HZ.out.2.2.1 HZ.out.2.2.2.1 (fun _ _ _ _ _ _ _ _ _ _ _ _ _ _ w' hw => ?_)
  go_wp2_with fail
  go_meet
  case rel => exact ⟨rfl,hw⟩
 case rest =>
 obtain ⟨rfl,H7⟩:=hcut
 generalize wc = w8 at H7 ⊢
 clear dP0 dP1 dQ0 dQ1 fG HO
 have HO:=H7
 clear H7
 have hc2:=(HYc.out w8 HO.out.kept).2.2
 --%I
 rename_i hRest
 refine hRest _ _ ?_
 exact order14_mid HL HK HOk HSz HKey HYc HYr HV HZ HO hn48 hp hq hy3
end Bp
end Go.Proofs.YtdcfammglpebaaaGreat
