/- shuntlaw14.BareissOrder: its middle, behind the swaps. (mk_bf4.py) -/
import Derived.Test.YtdcfammglpebaaaGreatBf8
import Derived.Test.YtdcfammglpebaaaGreatGad
namespace Go.Proofs.YtdcfammglpebaaaGreat
open Go.RowKit
open V (RowL RowL.alloc RowL.lt RowL.cell RowL.fz RowL.kept RowL.set RowL.far)
open Sp (hid vrow vrow_at own_kept own_keptK own_shape own_cell)
open Sy
open Bm (ZI ZI.kept ZI.of MxR ZsR mxr_at mxr_kept zsr_at zsr_kept mOk)
open Ba (stg lastP pivs facS Fits tr2)
namespace Bp
set_option maxRecDepth 100000 in
set_option maxHeartbeats 80000000 in
theorem order14_mid {ao bo:Option Addr} {cap nb capb ny capy g gc cc p q yb yf rlp rl vpc vqc kp kq zpc zqc:Nat} {vpa vqa zpo zqo:Option Addr} {mp mq:Bool} {zpl zql:List Nat} {y0 y1 y2:Int} {hs0:Nat→Value} {C0:Nat→List CE} {L:List LE} {Bs:List ZE} {w w3 w8:World} {u3 u4 u5 u6 u12 u13 u14 u15 u16 u17 u18 u19 u20 u21 u22 u23 u24 u25 u26 u27 u28 u29 u30 u31 u32 u33 u34 u35 u36 u37 u38 u39 u40 u41 u42 u43 u44 u45 u46 u47 u48 u49 u50 u51 u52 u53 u54 u55 u56 u57 u58 u59 u60 u61 u62 u63 u64 u65 u66 u67 u68 u69 u70 u71 u72 u73 u74 u75 u76 u77 u78 u79 u80 u81 u82 u83 u84 u85 u86 u87 u88 u89 u90 u91 u92 u93 u94 u95 u96 u97 u98 u99 u100 u101 u102 u103 u104 u105 u106 u107 u108 u109 u110 u111 u112 u113 u114 u115 u116 u117 u118 u119 u120 u121 u122 u123 u124 u125 u126 u127 u128 u129 u130 u131 u132 u133 u134 u135 u136 u137 u138 u139 u140 u141 u142 u143 u144 u145 u146 u147 u148 u149 u150 u151 u152 u153 u154 u155 u156 u157 u158 u159 u160 u161 u162 u163 u164 u165 u166 u167 u168 u169 u170 u171 u172 u173 u174 u175 u176 u177 u178 u179 u180 u181 u182 u183 u184 u185 u186 u187 u188 u189 u190 u191 u192 u193 u194 u195 u196 u197 u198 u199 u200 u201 u202 u203 u204 u205 u206 u207 u208 u209 u210 u211 u212 u213 u214 u215 u216 u217 u218 u219 u220 u221 u222 u223 u224 u225 u226 u227 u228 u229 u230 u231:Value}
  (HL:Hid (MxR w ao L∧ZsR w bo Bs∧nb = L.length∧nb = Bs.length∧∀ r ∈ L,r.cs.length≤1000000000000000)) (HK:Hid (Kept w w3)) (HOk:Hid (mOk L = true)) (HSz:Hid (∀ l ∈ L,l.cs.length≤60))
  (HKey:Hid ((∀ j,j < nb→(C0 j).map keyE = (L.getD j l0).cs.map keyE)∧∀ x ∈ Bs,x.ok w3))
  (HYc:Hid (∀ V,Kept w3 V→V.cell? ⟨yb,yf,none⟩ = some (.int .i64 y0)∧V.cell? ⟨yb,yf + 1,none⟩ = some (.int .i64 y1)∧V.cell? ⟨yb,yf + 2,none⟩ = some (.int .i64 y2)))
  (HYr:Hid ((-9223372036854775808≤y0∧y0≤9223372036854775807)∧(-9223372036854775808≤y1∧y1≤9223372036854775807)∧-9223372036854775808≤y2∧y2≤9223372036854775807))
  (HV:Hid (hs0 p = .slice vpa rlp vpc∧hs0 q = .slice vqa rl vqc∧rlp = (C0 p).length∧rl = (C0 q).length))
  {hpB:p < Bs.length} {hqB:q < Bs.length} (HZ:Hid ((⟨mp,zpo,zpc,zpl⟩:ZE) = Bs[p]∧(⟨mq,zqo,zqc,zql⟩:ZE) = Bs[q]∧kp = zpl.length∧kq = zql.length∧p < Bs.length∧q < Bs.length))
  (HO:Hid (OS w3 w8 w3.heap.size g nb (fun j => hs0 (tr2 p q j)) (fun j => C0 (tr2 p q j)) gc cc ((Bs.set p ⟨mq,zqo,zqc,zql⟩).set q ⟨mp,zpo,zpc,zpl⟩))) (hn48:nb≤48) (hp:p < nb) (hq:q < nb) (hy3:¬ ny < 3) :
  (tailF Tryz.f6 10).wp Tryz.prog (bodyPost Tryz.prog Tryz.f6 fun e w' => Kept w w'∧e = .returned (.bool true)) ⟨((.slice ao nb cap) :: (.slice bo nb capb) :: (.slice (some ⟨yb,yf,none⟩) ny capy) :: u3 :: u4 :: u5 :: u6 :: (.slice (some ⟨g,0,none⟩) nb nb) :: (.slice (some ⟨gc,0,none⟩) nb cc) :: (.int .i64 (nb:Int)) :: (.int .i64 (p:Int)) :: (.int .i64 (q:Int)) :: u12 :: u13 :: u14 :: u15 :: u16 :: u17 :: u18 :: u19 :: u20 :: u21 :: u22 :: u23 :: u24 :: u25 :: u26 :: u27 :: u28 :: u29 :: u30 :: u31 :: u32 :: u33 :: u34 :: u35 :: u36 :: u37 :: u38 :: u39 :: u40 :: u41 :: u42 :: u43 :: u44 :: u45 :: u46 :: u47 :: u48 :: u49 :: u50 :: u51 :: u52 :: u53 :: u54 :: u55 :: u56 :: u57 :: u58 :: u59 :: u60 :: u61 :: u62 :: u63 :: u64 :: u65 :: u66 :: u67 :: u68 :: u69 :: u70 :: u71 :: u72 :: u73 :: u74 :: u75 :: u76 :: u77 :: u78 :: u79 :: u80 :: u81 :: u82 :: u83 :: u84 :: u85 :: u86 :: u87 :: u88 :: u89 :: u90 :: u91 :: u92 :: u93 :: u94 :: u95 :: u96 :: u97 :: u98 :: u99 :: u100 :: u101 :: u102 :: u103 :: u104 :: u105 :: u106 :: u107 :: u108 :: u109 :: u110 :: u111 :: u112 :: u113 :: u114 :: u115 :: u116 :: u117 :: u118 :: u119 :: u120 :: u121 :: u122 :: u123 :: u124 :: u125 :: u126 :: u127 :: u128 :: u129 :: u130 :: u131 :: u132 :: u133 :: u134 :: u135 :: u136 :: u137 :: u138 :: u139 :: u140 :: u141 :: u142 :: u143 :: u144 :: u145 :: u146 :: u147 :: u148 :: u149 :: u150 :: u151 :: u152 :: u153 :: u154 :: u155 :: u156 :: u157 :: u158 :: u159 :: u160 :: u161 :: u162 :: u163 :: u164 :: u165 :: u166 :: u167 :: u168 :: u169 :: u170 :: u171 :: u172 :: u173 :: u174 :: u175 :: u176 :: u177 :: u178 :: u179 :: u180 :: u181 :: u182 :: u183 :: u184 :: u185 :: u186 :: u187 :: u188 :: u189 :: u190 :: u191 :: u192 :: u193 :: u194 :: u195 :: u196 :: u197 :: u198 :: u199 :: u200 :: u201 :: u202 :: u203 :: u204 :: u205 :: u206 :: u207 :: u208 :: u209 :: u210 :: u211 :: u212 :: u213 :: u214 :: u215 :: u216 :: u217 :: u218 :: u219 :: u220 :: u221 :: u222 :: u223 :: u224 :: u225 :: u226 :: u227 :: u228 :: u229 :: u230 :: u231 :: []).toArray,[]⟩ w8:=by
 have hc2:=(HYc.out w8 HO.out.kept).2.2
 have e3:¬ (ny:Int) < 3:=by omega
 have hpn:(p:Int) < (nb:Int):=by omega
 have hqn:(q:Int) < (nb:Int):=by omega
 have hp0:(0:Int)≤(p:Int):=by omega
 have hq0:(0:Int)≤(q:Int):=by omega
 conv =>
  arg 2
  whnf
 --%I
 go_wp2_with fail
 refine (Bm.place14_any y2 1000 w8 (by decide) (by decide) HYr.out.2.2.1 HYr.out.2.2.2).mono ?_
 rintro e w9 ⟨hk9,kf,hkf,rfl⟩
 --%J
 go_wp2_with fail
 refine (of_any _ w9 (by omega) (by omega)).mono ?_
 rintro e w10 ⟨hk10,sf,fo,fk,fc,fl,rfl,hfn,hfr,hfi⟩
 have hfi:M.int sf fl = ((kf + 1:Nat):Int):=by rw [hfi]; omega
 have hfk:fk = fl.length:=New.len hfn
 have h39:=Nat.le_trans HO.out.kept.size hk9.size
 have HO:=hid (HO.out.later (hk9.trans hk10))
 have rF:=RowL.alloc 37 w10 [.bool sf,.slice fo fk fc]
 have kF:=(Kept.refl w10).alloc (.cells #[.bool sf,.slice fo fk fc] 37)
 have HFo:=hid (And.intro (show New w3.heap.size w10 (.slice fo fk fc) fl from hfn.mono h39) (And.intro hfk (And.intro hfr hfi)))
 clear h39 hk9 hk10 hfn hfr hfi hc2 hfk
 --%K
 go_upto_region 11 with fail
 generalize w10.alloc (.cells #[.bool sf,.slice fo fk fc] 37) = w11 at rF kF ⊢
 obtain ⟨pF,hpF⟩:∃ p,p = w10.heap.size:=⟨_,rfl⟩
 rw [← hpF] at rF ⊢
 have hFB:pF < w11.heap.size:=rF.lt
 have hpF0:gc < pF:=by rw [hpF]; exact HO.out.gcB.2
 have HO:=hid (HO.out.later kF)
 have HFo:=hid (And.intro (HFo.out.1.kept kF) (And.intro rF HFo.out.2))
 have htp:tr2 p q p = q:=by unfold tr2; rw [if_pos rfl]
 have cP:=HO.out.grid.row.cell p _ (vrow_at hp)
 rw [htp,HV.out.2.1] at cP
 have HT:=hid htp
 have hl60:rl≤60:=by
  have h1:=HKey.out.1 q hq
  have h2:=congrArg List.length h1
  rw [List.length_map,List.length_map] at h2
  rw [HV.out.2.2.2,h2,getD_in (show q < L.length by rw [← HL.out.2.2.1]; exact hq)]
  exact HSz.out _ (List.getElem_mem _)
 have hne:pF ≠ gc:=fun e => by
  have h1:=HO.out.gcB
  have h2:=hpF0
  omega
 have HNe:=hid hne
 clear kF rF hpF htp hne hpF0
 --%M
 go_wp2_with fail
 go_loopw [13,106] (fun v13 v106 wr => ∃ t:Nat,t≤rl∧v13 = .int .i64 0∧v106 = .int .i64 (t:Int)∧Hid (∃ C1,OS w3 wr w3.heap.size g nb (fun j => hs0 (tr2 p q j)) C1 gc cc ((Bs.set p ⟨mq,zqo,zqc,zql⟩).set q ⟨mp,zpo,zpc,zpl⟩)∧(∀ j,j < nb→j ≠ p→C1 j = C0 (tr2 p q j))∧RowI ((kf + 1:Nat):Int) (C0 q) t (C1 p)∧RowL 37 wr pF [.bool sf,.slice fo fk fc]∧New w3.heap.size wr (.slice fo fk fc) fl)) (fun _ v106 _ => rl - (intOf v106).toNat)
 case atStart => exact ⟨0,Nat.zero_le _,rfl,rfl,_,HO.out,fun j _ _ => rfl,by have:=RowI.zero ((kf + 1:Nat):Int) (C0 q); rw [← HT.out] at this; rw [← HT.out]; simpa [HT.out] using this,HFo.out.2.1,HFo.out.1⟩
 case round =>
  obtain ⟨t,ht,rfl,rfl,HH⟩:=hrel
  generalize wr = w12 at HH ⊢
  by_cases hit:t < rl
  ·
   have hii:(t:Int) < (rl:Int):=by omega
   have ht0:(0:Int)≤(t:Int):=by omega
   obtain ⟨C1,hO,hother,hrow,hbF,hnF⟩:=HH.out
   have hlen:(C1 p).length = rl:=by rw [hrow.1]; exact HV.out.2.2.2.symm
   have ht1:t < (C1 p).length:=by omega
   have htq:t < (C0 q).length:=by rw [← HV.out.2.2.2]; exact hit
   obtain ⟨G,rcap,eG,_,_,_,hcG,_⟩:=own_cell (hO.grid.own p hp) (by omega)
   have eG:hs0 (tr2 p q p) = .slice (some ⟨G,0,none⟩) (C1 p).length rcap:=eG
   have hoG:=hO.grid.own p hp
   have hoG:w12.ownsRow w3.heap.size 39 3 (.slice (some ⟨G,0,none⟩) (C1 p).length rcap) (C1 p).length ((C1 p).flatMap CE.cells):=by rw [← eG]; exact hoG
   have cP:=hO.grid.row.cell p _ (vrow_at hp)
   have cP:w12.cell? ⟨g,p,none⟩ = some (.slice (some ⟨G,0,none⟩) rl rcap):=by rw [← hlen,← eG]; exact cP
   obtain ⟨cx,hcx⟩:∃ c,c = (C1 p)[t]:=⟨_,rfl⟩
   have d1:=hcG (t * 3 + 1) (.bool cx.val.neg) (flat3_at ht1 (by rw [← hcx]; rfl))
   have d2:=hcG (t * 3 + 2) cx.val.v (flat3_at ht1 (by rw [← hcx]; rfl))
   have hcn:=hO.own p hp cx (by rw [hcx]; exact List.getElem_mem _)
   have hck:cx.val.right = true∧cx.val.nought = false:=by
    have h1:=mOk_row HOk.out q
    rw [← cOk_key (HKey.out.1 q hq)] at h1
    have h2:=cOk_get h1 t htq
    rw [hcx,hrow.at htq ht1]
    exact h2.2.2
   have hcv:valE cx = valE (C0 q)[t]:=by rw [hcx,hrow.at htq ht1]
   obtain ⟨y,zm,zo,zc,zl⟩:=cx
   obtain ⟨zk,hzk⟩:∃ k,k = zl.length:=⟨_,rfl⟩
   have d2:w12.cell? ⟨G,t * 3 + 2,none⟩ = some (.slice zo zk zc):=by rw [hzk]; exact d2
   have d1:w12.cell? ⟨G,t * 3 + 1,none⟩ = some (.bool zm):=d1
   have hMul:∀ V,Kept w12 V→Calls Tryz.prog 30 #[.agg #[.bool zm,.slice zo zk zc],.agg #[.bool sf,.slice fo fk fc]] V fun e w' => Kept V w'∧∃ s ao k cap c,e = .returned (.tuple #[.agg #[.bool s,.slice ao k cap],.int .i64 c])∧MulIs V.heap.size w' ⟨zm,zo,zc,zl⟩ ⟨sf,fo,fc,fl⟩ s (.slice ao k cap) c:=fun V K => by
    have h1:ZE.ok V ⟨zm,zo,zc,zl⟩:=new_zok (hcn.kept K) (by have:=(right_R.1 hck.1).1; show zl.length≤_; have h2:zl.length≤72:=this; omega)
    have hfl:=HFo.out.2.2.1
    have h2:ZE.ok V ⟨sf,fo,fc,fl⟩:=new_zok (z:=⟨sf,fo,fc,fl⟩) (B:=w3.heap.size) (by show New _ _ (.slice fo fl.length fc) fl; rw [← hfl]; exact hnF.kept K) (by have:=HFo.out.2.2.2.1.len; show fl.length≤_; omega)
    have:=mul_ze ⟨zm,zo,zc,zl⟩ ⟨sf,fo,fc,fl⟩ V h1 h2
    unfold ZE.v at this
    dsimp only at this
    rw [← hzk,← hfl] at this
    exact this
   have hnz:valE (C0 q)[t] ≠ 0:=by
    rw [← hcv]
    intro h0
    have hz:ZI w12 zm (.slice zo zl.length zc) 0:=by
     have:=ZI.of (z:=⟨zm,zo,zc,zl⟩) (new_zok hcn (by have:=(right_R.1 hck.1).1; have h2:zl.length≤72:=this; show zl.length≤_; omega)) hck.1
     rw [show M.int zm zl = 0 from h0] at this
     exact this
    have h1:=(ZI.zero hz).2 rfl
    have h2:=hck.2
    unfold ZE.nought at h2
    dsimp only at h2
    rw [h1] at h2
    cases h2
   have HI:=hid (And.intro hO (And.intro hother (And.intro hrow (And.intro hbF (And.intro hnF (And.intro hck (And.intro hcv (And.intro hcx (And.intro hlen (And.intro hoG (And.intro eG hnz)))))))))))
   have HMul:=hid hMul
   clear hO hother hrow hbF hnF hck hcv hcx hlen hoG hnz hMul hcG hzk hcn HH
   --%N
   go_upto_region 15 with fail
   go_cut [13] (fun v13 wc => ∃ c:Int,v13 = .int .i64 c∧Hid ((c ≠ 0∧Kept w3 wc) ∨ (c = 0∧∃ C2,OS w3 wc w3.heap.size g nb (fun j => hs0 (tr2 p q j)) C2 gc cc ((Bs.set p ⟨mq,zqo,zqc,zql⟩).set q ⟨mp,zpo,zpc,zpl⟩)∧(∀ j,j < nb→j ≠ p→C2 j = C0 (tr2 p q j))∧RowI ((kf + 1:Nat):Int) (C0 q) (t + 1) (C2 p)∧RowL 37 wc pF [.bool sf,.slice fo fk fc]∧New w3.heap.size wc (.slice fo fk fc) fl)))
   case first =>
    --%N1
    have KT:Kept w12 w12.drew:=(Kept.refl _).drew
    have sS:=hid (fun (V:World) (r1:RowL 34 V g (vrow nb fun j => hs0 (tr2 p q j))) (r2:RowL 37 V pF [.bool sf,.slice fo fk fc]) => show (fun w':World => w'.cell? ⟨g,p,none⟩ = some (.slice (some ⟨G,0,none⟩) rl rcap)∧w'.cell? ⟨pF,0,none⟩ = some (.bool sf)∧w'.cell? ⟨pF,1,none⟩ = some (.slice fo fk fc)) V from ⟨by rw [← HI.out.2.2.2.2.2.2.2.2.1,← HI.out.2.2.2.2.2.2.2.2.2.2.1]; exact r1.cell p _ (vrow_at hp),r2.cell 0 _ rfl,r2.cell 1 _ rfl⟩)
    have d1:w12.drew.cell? ⟨G,t * 3 + 1,none⟩ = some (.bool zm):=d1
    have d2:w12.drew.cell? ⟨G,t * 3 + 2,none⟩ = some (.slice zo zk zc):=d2
    refine wp_region_held_drew (S:=fun w' => w'.cell? ⟨g,p,none⟩ = some (.slice (some ⟨G,0,none⟩) rl rcap)∧w'.cell? ⟨pF,0,none⟩ = some (.bool sf)∧w'.cell? ⟨pF,1,none⟩ = some (.slice fo fk fc)) (by kernel_rfl) (sS.out _ (HI.out.1.grid.row.kept KT) (HI.out.2.2.2.1.kept KT)) (fun hHeld => ?_)
    generalize w12.drew = Wd at KT d1 d2 hHeld ⊢
    clear cP
    refine wk 0 hHeld ?_
    refine wk 1 hHeld ?_
    refine wk 2 hHeld ?_
    refine wk 3 hHeld ?_
    refine wk 4 hHeld ?_
    refine wk 5 hHeld ?_
    refine wk 6 hHeld ?_
    refine wk 7 hHeld ?_
    refine wk 8 hHeld ?_
    refine wk 9 hHeld ?_
    refine wk 10 hHeld ?_
    refine wk 11 hHeld ?_
    refine wk 13 hHeld ?_
    --%N1a
    refine wpAnyH_ready (rs:=[12]) (by kernel_rfl) (by simp) ?_
    refine AllReadyH.cons rfl (fun K hK => ?_) AllReadyH.nil
    go_simp
    refine hK.out _ _ hHeld (fun hHeld => ?_)
    clear hK K
    refine wpAnyH_ready (rs:=[14]) (by kernel_rfl) (by simp) ?_
    refine AllReadyH.cons rfl (fun K hK => ?_) AllReadyH.nil
    go_simp
    --%N1b
    refine (HMul.out Wd KT).mono ?_
    rintro e u1 ⟨hu1,s1,o1,k1,c1,c5,rfl,hM⟩
    refine hK.out _ _ (sS.out _ (HI.out.1.grid.row.kept (KT.trans hu1)) (HI.out.2.2.2.1.kept (KT.trans hu1))) (fun hHeld => ?_)
    clear hK K d1 d2
    --%N1d
    have hWd:w12.heap.size≤Wd.heap.size:=KT.size
    have KT:=KT.trans hu1
    have HM:=hid hM
    have hob:=own_keptK HI.out.2.2.2.2.2.2.2.2.2.1 KT
    have fG:=hob.frozenAt
    have g1:=fG (t * 3 + 1)
    have g2:=fG (t * 3 + 2)
    obtain ⟨xa,hxa⟩:=own_some hob (show t * 3 + 1 < (C1 p).length * 3 by omega)
    obtain ⟨xb,hxb⟩:=own_some hob (show t * 3 + 2 < (C1 p).length * 3 by omega)
    have hOu:=HI.out.1.later KT
    have kx:KX (fun k => k = G) u1 ((u1.setCell ⟨G,t * 3 + 1,none⟩ (.bool s1)).setCell ⟨G,t * 3 + 2,none⟩ (.slice o1 k1 c1)):=((KX.refl u1).setCell (T:=fun k => k = G) (p:=⟨G,t * 3 + 1,none⟩) (.inl rfl) _).setCell (p:=⟨G,t * 3 + 2,none⟩) (.inl rfl) _
    have fr:=fun {t:TypeId} (ht:t ≠ 39) => row_free hob ht
    have R1:=RowL_kx hOu.grid.row kx (fr (by decide))
    have R2:=RowL_kx (HI.out.2.2.2.1.kept KT) kx (fr (by decide))
    have KW:Kept w3 ((u1.setCell ⟨G,t * 3 + 1,none⟩ (.bool s1)).setCell ⟨G,t * 3 + 2,none⟩ (.slice o1 k1 c1)):=KX.kept hOu.kept kx fun k hk => by rw [hk]; exact (World.ownsRow.lt hob G rfl).1
    have hN2:=New_kx (HI.out.2.2.2.2.1.kept KT) kx (fr (by decide))
    have HFin:=hid (show (c5 ≠ 0∧Kept w3 ((u1.setCell ⟨G,t * 3 + 1,none⟩ (.bool s1)).setCell ⟨G,t * 3 + 2,none⟩ (.slice o1 k1 c1))) ∨ (c5 = 0∧∃ C2,OS w3 ((u1.setCell ⟨G,t * 3 + 1,none⟩ (.bool s1)).setCell ⟨G,t * 3 + 2,none⟩ (.slice o1 k1 c1)) w3.heap.size g nb (fun j => hs0 (tr2 p q j)) C2 gc cc ((Bs.set p ⟨mq,zqo,zqc,zql⟩).set q ⟨mp,zpo,zpc,zpl⟩)∧(∀ j,j < nb→j ≠ p→C2 j = C0 (tr2 p q j))∧RowI ((kf + 1:Nat):Int) (C0 q) (t + 1) (C2 p)∧RowL 37 ((u1.setCell ⟨G,t * 3 + 1,none⟩ (.bool s1)).setCell ⟨G,t * 3 + 2,none⟩ (.slice o1 k1 c1)) pF [.bool sf,.slice fo fk fc]∧New w3.heap.size ((u1.setCell ⟨G,t * 3 + 1,none⟩ (.bool s1)).setCell ⟨G,t * 3 + 2,none⟩ (.slice o1 k1 c1)) (.slice fo fk fc) fl) from by
     rcases HM.out with h | ⟨h,_,_,l,hl1,hl2,hl3⟩
     ·
      exact .inl ⟨h,KW⟩
     ·
      refine .inr ⟨h,?_⟩
      have ek:=New.len hl1
      subst ek
      have hput:=hOu.putG (a:=t) hp HI.out.2.2.2.2.2.2.2.2.2.2.1 ⟨s1,o1,c1,l⟩ ht1 (hl1.mono (Nat.le_trans HI.out.1.kept.size hWd))
      refine ⟨_,hput,fun j hj hne => by rw [if_neg hne]; exact HI.out.2.1 j hj hne,?_,R2,hN2⟩
      rw [if_pos rfl]
      have hv:M.int s1 l = ((kf + 1:Nat):Int) * valE (C0 q)[t]:=by
       rw [hl3,← HI.out.2.2.2.2.2.2.1,Int.mul_comm]
       have:=HFo.out.2.2.2.2
       show M.int sf fl * _ = _
       rw [this]
       rfl
      refine HI.out.2.2.1.step htq ht1 (right_R.2 (R.of_right hl2)) ?_ hv
      cases hno:ZE.nought ⟨s1,o1,c1,l⟩ with
      | false => rfl
      | true =>
       exfalso
       unfold ZE.nought at hno
       have h0:l = []:=List.length_eq_zero_iff.1 (by simpa using hno)
       rw [h0] at hv
       have hz:=HI.out.2.2.2.2.2.2.2.2.2.2.2
       have h1:M.int s1 [] = 0:=by cases s1 <;> rfl
       rw [h1] at hv
       rcases Int.mul_eq_zero.1 hv.symm with h | h
       ·
        omega
       ·
        exact hz h)
    have HR12:=hid (And.intro R1 R2)
    clear hM hob fG kx fr KW hN2 hOu R1 R2
    --%N1c
    refine wk 15 hHeld ?_
    refine wk 16 hHeld ?_
    refine wk 17 hHeld ?_
    refine wk 18 hHeld ?_
    refine wk 19 hHeld ?_
    refine wpAnyH_ready (rs:=[20]) (by kernel_rfl) (by simp) ?_
    refine AllReadyH.cons rfl (fun K hK => ?_) AllReadyH.nil
    --%N2
    go_simp
    refine hK.out _ _ (sS.out _ HR12.out.1 HR12.out.2) (fun hHeld => ?_)
    clear hK K
    refine wk 21 hHeld ?_
    refine wpAnyH_done (by kernel_rfl) ?_ _
    go_wp2_with fail
    go_meet
    case rel => exact ⟨c5,rfl,HFin.out⟩
   case rest =>
    obtain ⟨c5,rfl,H8⟩:=hcut
    rcases H8.out with ⟨hne,hK8⟩ | ⟨rfl,h8⟩
    ·
     have hne2:(c5 == 0) = false:=by simpa using hne
     have hne3:(c5 != 0) = true:=by simp [bne,hne2]
     have HK8:=hid hK8
     clear hK8 H8
     --%O
     go_wp2_with fail
     go_ret
     exact ⟨HK.out.trans HK8.out,rfl⟩
    ·
     have H9:=hid h8
     clear h8 H8
     --%P
     go_wp2_with fail
     go_roundw
     case rel => exact ⟨t + 1,by omega,rfl,by go_num,H9.out⟩
     case measure => show rl - ((t:Int) + 1).toNat < rl - (t:Int).toNat; omega
  ·
   have hii:¬ (t:Int) < (rl:Int):=by omega
   --%Q
   obtain rfl:t = rl:=by omega
   obtain ⟨C1,hO,hother,hrow,hbF,hnF⟩:=HH.out
   obtain ⟨hm1,hm2,hm3⟩:=hrow.fin (by rw [← HV.out.2.2.2]; exact Nat.le_refl _)
   have hmat:=in_mat (hs:=fun j => hs0 (tr2 p q j)) HKey.out.1 hp hq hother (by rw [HT.out]; exact hm1) (by rw [HT.out]; exact hm2)
   have hmok:=in_ok (hs:=fun j => hs0 (tr2 p q j)) HOk.out HL.out.2.2.1 HKey.out.1 hp hq hother (by rw [HT.out]; exact hm1) hm3
   obtain ⟨T,hT⟩:∃ T,T = lL nb (fun j => hs0 (tr2 p q j)) C1:=⟨_,rfl⟩
   have hTl:nb = T.length:=by rw [hT,lL_len]
   have hTc:∀ j,j < nb→(C1 j).length≤60:=fun j hj => by
    have hL60:∀ i,i < nb→(C0 i).length≤60:=fun i hi => by
     have h2:=congrArg List.length (HKey.out.1 i hi)
     rw [List.length_map,List.length_map] at h2
     rw [h2,getD_in (show i < L.length by rw [← HL.out.2.2.1]; exact hi)]
     exact HSz.out _ (List.getElem_mem _)
    by_cases e:j = p
    ·
     rw [e,hrow.1]; exact hL60 q hq
    ·
     rw [hother j hj e]; exact hL60 _ (tr2_lt hp hq hj)
   have hTs:∀ l ∈ T,l.cs.length≤1000000:=fun l hl => by
    rw [hT] at hl
    unfold lL at hl
    obtain ⟨j,hj,rfl⟩:=List.mem_map.1 hl
    have:=hTc j (List.mem_range.1 hj)
    show (C1 j).length≤_
    omega
   have hTr:∀ j,j < nb→∀ x ∈ C1 j,x.val.lim.length≤9223372036854775807:=fun j hj x hx => by
    have h1:=mOk_row hmok j
    rw [getD_in (show j < (lL nb (fun j => hs0 (tr2 p q j)) C1).length by rw [lL_len]; exact hj)] at h1
    have h3:=(cOk_iff.1 h1).1 x (by
     have h4:=lL_at (hs:=fun j => hs0 (tr2 p q j)) (C:=C1) hj
     rw [getD_in (show j < (lL nb (fun j => hs0 (tr2 p q j)) C1).length by rw [lL_len]; exact hj)] at h4
     rw [h4]
     exact hx)
    have:=(right_R.1 h3.2.2.1).1
    omega
   rw [← hT] at hmat hmok
   have HTm:=hid (And.intro hmat (And.intro hmok (And.intro hTl (And.intro hTs (And.intro hTr hT)))))
   have HI:=hid (And.intro hO (And.intro hbF hnF))
   have hCp:((Bs.set p ⟨mq,zqo,zqc,zql⟩).set q ⟨mp,zpo,zpc,zpl⟩)[p]'(by rw [List.length_set,List.length_set]; exact hpB) = ⟨mq,zqo,zqc,zql⟩:=by
    rw [List.getElem_set]
    split
    ·
     rename_i e
     subst e
     rw [HZ.out.1,HZ.out.2.1]
    ·
     rw [List.getElem_set_self]
   have hlC:((Bs.set p ⟨mq,zqo,zqc,zql⟩).set q ⟨mp,zpo,zpc,zpl⟩).length = nb:=by rw [List.length_set,List.length_set]; exact HL.out.2.2.2.1.symm
   have hcl:=hO.cl
   have d1:w12.cell? ⟨gc,p * 2,none⟩ = some (.bool mq):=(hcl.cellAt _ (by omega)).trans (flat2_at (q:=0) (by rw [hlC]; exact hp) (by rw [hCp]; rfl))
   have d2:w12.cell? ⟨gc,p * 2 + 1,none⟩ = some (.slice zqo kq zqc):=(hcl.cellAt _ (by omega)).trans (flat2_at (q:=1) (by rw [hlC]; exact hp) (by rw [hCp,HZ.out.2.2.2.1]; rfl))
   have hMul:∀ V,Kept w12 V→Calls Tryz.prog 30 #[.agg #[.bool mq,.slice zqo kq zqc],.agg #[.bool sf,.slice fo fk fc]] V fun e w' => Kept V w'∧∃ s ao k cap c,e = .returned (.tuple #[.agg #[.bool s,.slice ao k cap],.int .i64 c])∧MulIs V.heap.size w' ⟨mq,zqo,zqc,zql⟩ ⟨sf,fo,fc,fl⟩ s (.slice ao k cap) c:=fun V K => by
    have h1:ZE.ok V ⟨mq,zqo,zqc,zql⟩:=(HKey.out.2 _ (by rw [HZ.out.2.1]; exact List.getElem_mem hqB)).kept (HI.out.1.kept.trans K)
    have hfl:=HFo.out.2.2.1
    have h2:ZE.ok V ⟨sf,fo,fc,fl⟩:=new_zok (z:=⟨sf,fo,fc,fl⟩) (B:=w3.heap.size) (by show New _ _ (.slice fo fl.length fc) fl; rw [← hfl]; exact HI.out.2.2.kept K) (by have:=HFo.out.2.2.2.1.len; show fl.length≤_; omega)
    have:=mul_ze ⟨mq,zqo,zqc,zql⟩ ⟨sf,fo,fc,fl⟩ V h1 h2
    unfold ZE.v at this
    dsimp only at this
    rw [← HZ.out.2.2.2.1,← hfl] at this
    exact this
   have HMul:=hid hMul
   clear hO hother hrow hbF hnF hm1 hm2 hm3 hmat hmok hTl hTc hTs hTr hT hCp hlC hcl hMul HH cP
   --%R
   go_upto_region 19 with fail
   go_cut [13] (fun v13 wc => ∃ c:Int,v13 = .int .i64 c∧Hid ((c ≠ 0∧Kept w3 wc) ∨ (c = 0∧∃ z:ZE,OS w3 wc w3.heap.size g nb (fun j => hs0 (tr2 p q j)) C1 gc cc (((Bs.set p ⟨mq,zqo,zqc,zql⟩).set q ⟨mp,zpo,zpc,zpl⟩).set p z)∧z.right = true∧ZE.right ⟨mq,zqo,zqc,zql⟩ = true∧M.int z.neg z.lim = ((kf + 1:Nat):Int) * M.int mq zql)))
   case first =>
    --%R1
    have KT:Kept w12 w12.drew:=(Kept.refl _).drew
    have sS:=hid (fun (V:World) (r2:RowL 37 V pF [.bool sf,.slice fo fk fc]) => show (fun w':World => w'.cell? ⟨pF,0,none⟩ = some (.bool sf)∧w'.cell? ⟨pF,1,none⟩ = some (.slice fo fk fc)) V from ⟨r2.cell 0 _ rfl,r2.cell 1 _ rfl⟩)
    have d1:w12.drew.cell? ⟨gc,p * 2,none⟩ = some (.bool mq):=d1
    have d2:w12.drew.cell? ⟨gc,p * 2 + 1,none⟩ = some (.slice zqo kq zqc):=d2
    refine wp_region_held_drew (S:=fun w' => w'.cell? ⟨pF,0,none⟩ = some (.bool sf)∧w'.cell? ⟨pF,1,none⟩ = some (.slice fo fk fc)) (by kernel_rfl) (sS.out _ (HI.out.2.1.kept KT)) (fun hHeld => ?_)
    generalize w12.drew = Wd at KT d1 d2 hHeld ⊢
    refine wk 0 hHeld ?_
    refine wk 1 hHeld ?_
    refine wk 2 hHeld ?_
    refine wk 3 hHeld ?_
    refine wk 4 hHeld ?_
    refine wk 6 hHeld ?_
    refine wpAnyH_ready (rs:=[5]) (by kernel_rfl) (by simp) ?_
    refine AllReadyH.cons rfl (fun K hK => ?_) AllReadyH.nil
    go_simp
    refine hK.out _ _ hHeld (fun hHeld => ?_)
    clear hK K
    refine wpAnyH_ready (rs:=[7]) (by kernel_rfl) (by simp) ?_
    refine AllReadyH.cons rfl (fun K hK => ?_) AllReadyH.nil
    go_simp
    refine (HMul.out Wd KT).mono ?_
    rintro e u1 ⟨hu1,s1,o1,k1,c1,c5,rfl,hM⟩
    refine hK.out _ _ (sS.out _ (HI.out.2.1.kept (KT.trans hu1))) (fun hHeld => ?_)
    clear hK K d1 d2
    have hWd:w12.heap.size≤Wd.heap.size:=KT.size
    have KT:=KT.trans hu1
    have HM:=hid hM
    have hOu:=HI.out.1.later KT
    have fG:=hOu.cl.frozenAt
    have g1:=fG (p * 2)
    have g2:=fG (p * 2 + 1)
    obtain ⟨xa,hxa⟩:=own_some hOu.cl (show p * 2 < nb * 2 by omega)
    obtain ⟨xb,hxb⟩:=own_some hOu.cl (show p * 2 + 1 < nb * 2 by omega)
    have kx:KX (fun k => k = gc) u1 ((u1.setCell ⟨gc,p * 2,none⟩ (.bool s1)).setCell ⟨gc,p * 2 + 1,none⟩ (.slice o1 k1 c1)):=((KX.refl u1).setCell (T:=fun k => k = gc) (p:=⟨gc,p * 2,none⟩) (.inl rfl) _).setCell (p:=⟨gc,p * 2 + 1,none⟩) (.inl rfl) _
    have KW:Kept w3 ((u1.setCell ⟨gc,p * 2,none⟩ (.bool s1)).setCell ⟨gc,p * 2 + 1,none⟩ (.slice o1 k1 c1)):=KX.kept hOu.kept kx fun k hk => by rw [hk]; exact hOu.gcB.1
    have ne:pF ≠ gc:=HNe.out
    have R2:=((HI.out.2.1.kept KT).far ne (p * 2) (.bool s1)).far ne (p * 2 + 1) (.slice o1 k1 c1)
    have HFin:=hid (show (c5 ≠ 0∧Kept w3 ((u1.setCell ⟨gc,p * 2,none⟩ (.bool s1)).setCell ⟨gc,p * 2 + 1,none⟩ (.slice o1 k1 c1))) ∨ (c5 = 0∧∃ z:ZE,OS w3 ((u1.setCell ⟨gc,p * 2,none⟩ (.bool s1)).setCell ⟨gc,p * 2 + 1,none⟩ (.slice o1 k1 c1)) w3.heap.size g nb (fun j => hs0 (tr2 p q j)) C1 gc cc (((Bs.set p ⟨mq,zqo,zqc,zql⟩).set q ⟨mp,zpo,zpc,zpl⟩).set p z)∧z.right = true∧ZE.right ⟨mq,zqo,zqc,zql⟩ = true∧M.int z.neg z.lim = ((kf + 1:Nat):Int) * M.int mq zql) from by
     rcases HM.out with h | ⟨h,hr1,_,l,hl1,hl2,hl3⟩
     ·
      exact .inl ⟨h,KW⟩
     ·
      refine .inr ⟨h,⟨s1,o1,c1,l⟩,?_,right_R.2 (R.of_right hl2),hr1,?_⟩
      ·
       have ek:=New.len hl1
       subst ek
       exact hOu.putC ⟨s1,o1,c1,l⟩ hp (.inr (hl1.mono (Nat.le_trans HI.out.1.kept.size hWd)))
      ·
       show M.int s1 l = _
       rw [hl3,Int.mul_comm]
       show M.int sf fl * _ = _
       rw [HFo.out.2.2.2.2])
    have HR2:=hid R2
    clear hM fG kx KW hOu ne R2
    refine wk 8 hHeld ?_
    refine wk 9 hHeld ?_
    refine wk 10 hHeld ?_
    refine wk 11 hHeld ?_
    refine wpAnyH_ready (rs:=[12]) (by kernel_rfl) (by simp) ?_
    refine AllReadyH.cons rfl (fun K hK => ?_) AllReadyH.nil
    --%R2
    go_simp
    refine hK.out _ _ (sS.out _ HR2.out) (fun hHeld => ?_)
    clear hK K
    refine wk 13 hHeld ?_
    refine wpAnyH_done (by kernel_rfl) ?_ _
    go_wp2_with fail
    go_meet
    case rel => exact ⟨c5,rfl,HFin.out⟩
   case rest =>
   obtain ⟨c5,rfl,H8⟩:=hcut
   rcases H8.out with ⟨hne,hK8⟩ | ⟨rfl,z,hO,hzr,hqr,hzv⟩
   ·
    have hne2:(c5 == 0) = false:=by simpa using hne
    have hne3:(c5 != 0) = true:=by simp [bne,hne2]
    have HK8:=hid hK8
    clear hK8 H8
    --%S
    go_wp2_with fail
    go_ret
    exact ⟨HK.out.trans HK8.out,rfl⟩
   generalize wc = w13 at hO ⊢
   obtain ⟨Cs,hCs⟩:∃ C,C = (((Bs.set p ⟨mq,zqo,zqc,zql⟩).set q ⟨mp,zpo,zpc,zpl⟩).set p z):=⟨_,rfl⟩
   have hBq:zsB Bs q = true:=by unfold zsB; rw [getD_in hqB,← HZ.out.2.1]; exact hqr
   have hCB:Cs = (((Bs.set p Bs[q]).set q Bs[p]).set p z):=by rw [hCs,← HZ.out.1,← HZ.out.2.1]
   have hCr:(∀ j,j < nb→zsB Cs j = true) ↔ ∀ j,j < nb→zsB Bs j = true:=by
    rw [hCB]
    have:=c_right (z:=z) hpB hqB hzr hBq
    rw [← HL.out.2.2.2.1] at this
    exact this
   have hCF:∀ i,i < nb→zsF Cs i = opB p q ((kf + 1:Nat):Int) (zsF Bs) i:=fun i hi => by
    rw [hCB,(c_fin (z:=z) hpB hqB (by rw [← HL.out.2.2.2.1]; exact hi)).1]
    unfold opB
    by_cases e:i = p
    ·
     subst e
     rw [if_pos rfl,if_pos rfl,hzv,HT.out]
     unfold zsF
     rw [getD_in hqB,← HZ.out.2.1]
    ·
     rw [if_neg e,if_neg e]
   have hCl:nb = Cs.length:=by rw [hCB,c_len]; exact HL.out.2.2.2.1
   have hCz:∀ x ∈ Cs,x.lim.length≤9223372036854775807:=fun x hx => by
    rw [hCs] at hx
    rcases List.mem_or_eq_of_mem_set hx with hx | rfl
    ·
     rcases List.mem_or_eq_of_mem_set hx with hx | rfl
     ·
      rcases List.mem_or_eq_of_mem_set hx with hx | rfl
      ·
       exact (HKey.out.2 x hx).2
      ·
       exact (HKey.out.2 _ (by rw [HZ.out.2.1]; exact List.getElem_mem hqB)).2
     ·
      exact (HKey.out.2 _ (by rw [HZ.out.1]; exact List.getElem_mem hpB)).2
    ·
     have:=(right_R.1 hzr).1
     omega
   have hMx:MxR w13 (some ⟨g,0,none⟩) T:=by
    rw [HTm.out.2.2.2.2.2]
    exact hO.grid.mxL fun c hc x hx => new_zok (hO.own c hc x hx) (HTm.out.2.2.2.2.1 c hc x hx)
   rw [← hCs] at hO
   have hZs:=hO.zsr hCz
   have HN:=hid (And.intro hMx (And.intro hZs (And.intro hCl (And.intro hCr (And.intro hCF (HK.out.trans hO.kept))))))
   clear hMx hZs hCl hCr hCF hO hCz hCB hCs hBq hzr hqr hzv H8
   --%T
   rename_i hRest
   refine hRest _ _ ?_
   exact order14_tail HL HOk HSz (hid (And.intro HTm.out.1 (And.intro HTm.out.2.1 (And.intro HTm.out.2.2.1 HTm.out.2.2.2.1)))) HN hn48 hp hq
end Bp
end Go.Proofs.YtdcfammglpebaaaGreat
