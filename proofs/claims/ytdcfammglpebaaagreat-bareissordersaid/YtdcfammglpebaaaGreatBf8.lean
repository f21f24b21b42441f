/- shuntlaw14.BareissOrder: its end, from the first New on. (mk_bf4.py) -/
import Derived.Test.YtdcfammglpebaaaGreatGaw
import Derived.Test.YtdcfammglpebaaaGreatGaw
import Derived.Test.YtdcfammglpebaaaGreatGam
import Derived.Test.YtdcfammglpebaaaGreatGad
namespace Go.Proofs.YtdcfammglpebaaaGreat
open Go.RowKit
open V (RowL RowL.alloc RowL.lt RowL.cell RowL.fz RowL.kept RowL.set RowL.far)
open Sp (hid vrow vrow_at own_kept own_keptK own_shape own_cell)
open Sy
open Bm (ZI ZI.kept ZI.of MxR ZsR mxr_at mxr_kept zsr_at zsr_kept mOk)
open Ba (stg lastP pivs facS Fits tr2)
namespace Bp
set_option maxRecDepth 100000 in
set_option maxHeartbeats 80000000 in
theorem order14_tail {ao bo:Option Addr} {cap nb capb g gc cc p q kf:Nat} {L T:List LE} {Bs Cs:List ZE} {w w13:World} {u2 u3 u4 u5 u6 u10 u11 u12 u14 u15 u16 u17 u18 u19 u20 u21 u22 u23 u24 u25 u26 u27 u28 u29 u30 u31 u32 u33 u34 u35 u36 u37 u38 u39 u40 u41 u42 u43 u44 u45 u46 u47 u48 u49 u50 u51 u52 u53 u54 u55 u56 u57 u58 u59 u60 u61 u62 u63 u64 u65 u66 u67 u68 u69 u70 u71 u72 u73 u74 u75 u76 u77 u78 u79 u80 u81 u82 u83 u84 u85 u86 u87 u88 u89 u90 u91 u92 u93 u94 u95 u96 u97 u98 u99 u100 u101 u102 u103 u104 u105 u106 u107 u108 u109 u110 u111 u112 u113 u114 u115 u116 u117 u118 u119 u120 u121 u122 u123 u124 u125 u126 u127 u128 u129 u130 u131 u132 u133 u134 u135 u136 u137 u138 u139 u140 u141 u142 u143 u144 u145 u146 u147 u148 u149 u150 u151 u152 u153 u154 u155 u156 u157 u158 u159 u160 u161 u162 u163 u164 u165 u166 u167 u168 u169 u170 u171 u172 u173 u174 u175 u176 u177 u178 u179 u180 u181 u182 u183 u184 u185 u186 u187 u188 u189 u190 u191 u192 u193 u194 u195 u196 u197 u198 u199 u200 u201 u202 u203 u204 u205 u206 u207 u208 u209 u210 u211 u212 u213 u214 u215 u216 u217 u218 u219 u220 u221 u222 u223 u224 u225 u226 u227 u228 u229 u230 u231:Value}
  (HL:Hid (MxR w ao L∧ZsR w bo Bs∧nb = L.length∧nb = Bs.length∧∀ r ∈ L,r.cs.length≤1000000000000000)) (HOk:Hid (mOk L = true)) (HSz:Hid (∀ l ∈ L,l.cs.length≤60))
  (HTm:Hid ((∀ i k,i < nb→k < nb→matF T i k = opF p q ((kf + 1:Nat):Int) (matF L) i k)∧mOk T = true∧nb = T.length∧∀ l ∈ T,l.cs.length≤1000000))
  (HN:Hid (MxR w13 (some ⟨g,0,none⟩) T∧ZsR w13 (some ⟨gc,0,none⟩) Cs∧nb = Cs.length∧((∀ j,j < nb→zsB Cs j = true) ↔ ∀ j,j < nb→zsB Bs j = true)∧(∀ i,i < nb→zsF Cs i = opB p q ((kf + 1:Nat):Int) (zsF Bs) i)∧Kept w w13)) (hn48:nb≤48) (hp:p < nb) (hq:q < nb) :
  (tailF Tryz.f6 20).wp Tryz.prog (bodyPost Tryz.prog Tryz.f6 fun e w' => Kept w w'∧e = .returned (.bool true)) ⟨((.slice ao nb cap) :: (.slice bo nb capb) :: u2 :: u3 :: u4 :: u5 :: u6 :: (.slice (some ⟨g,0,none⟩) nb nb) :: (.slice (some ⟨gc,0,none⟩) nb cc) :: (.int .i64 (nb:Int)) :: u10 :: u11 :: u12 :: (.int .i64 0) :: u14 :: u15 :: u16 :: u17 :: u18 :: u19 :: u20 :: u21 :: u22 :: u23 :: u24 :: u25 :: u26 :: u27 :: u28 :: u29 :: u30 :: u31 :: u32 :: u33 :: u34 :: u35 :: u36 :: u37 :: u38 :: u39 :: u40 :: u41 :: u42 :: u43 :: u44 :: u45 :: u46 :: u47 :: u48 :: u49 :: u50 :: u51 :: u52 :: u53 :: u54 :: u55 :: u56 :: u57 :: u58 :: u59 :: u60 :: u61 :: u62 :: u63 :: u64 :: u65 :: u66 :: u67 :: u68 :: u69 :: u70 :: u71 :: u72 :: u73 :: u74 :: u75 :: u76 :: u77 :: u78 :: u79 :: u80 :: u81 :: u82 :: u83 :: u84 :: u85 :: u86 :: u87 :: u88 :: u89 :: u90 :: u91 :: u92 :: u93 :: u94 :: u95 :: u96 :: u97 :: u98 :: u99 :: u100 :: u101 :: u102 :: u103 :: u104 :: u105 :: u106 :: u107 :: u108 :: u109 :: u110 :: u111 :: u112 :: u113 :: u114 :: u115 :: u116 :: u117 :: u118 :: u119 :: u120 :: u121 :: u122 :: u123 :: u124 :: u125 :: u126 :: u127 :: u128 :: u129 :: u130 :: u131 :: u132 :: u133 :: u134 :: u135 :: u136 :: u137 :: u138 :: u139 :: u140 :: u141 :: u142 :: u143 :: u144 :: u145 :: u146 :: u147 :: u148 :: u149 :: u150 :: u151 :: u152 :: u153 :: u154 :: u155 :: u156 :: u157 :: u158 :: u159 :: u160 :: u161 :: u162 :: u163 :: u164 :: u165 :: u166 :: u167 :: u168 :: u169 :: u170 :: u171 :: u172 :: u173 :: u174 :: u175 :: u176 :: u177 :: u178 :: u179 :: u180 :: u181 :: u182 :: u183 :: u184 :: u185 :: u186 :: u187 :: u188 :: u189 :: u190 :: u191 :: u192 :: u193 :: u194 :: u195 :: u196 :: u197 :: u198 :: u199 :: u200 :: u201 :: u202 :: u203 :: u204 :: u205 :: u206 :: u207 :: u208 :: u209 :: u210 :: u211 :: u212 :: u213 :: u214 :: u215 :: u216 :: u217 :: u218 :: u219 :: u220 :: u221 :: u222 :: u223 :: u224 :: u225 :: u226 :: u227 :: u228 :: u229 :: u230 :: u231 :: []).toArray,[]⟩ w13:=by
 conv =>
  arg 2
  whnf
 --%T
 go_wp2_with fail
 refine (new_any ao nb cap 32 L w13 (mxr_kept HL.out.1 HN.out.2.2.2.2.2) HL.out.2.2.1 (fun l hl => Nat.le_trans (HSz.out l hl) (by decide)) (by omega) (by decide) (by decide)).mono ?_
 rintro e w14 hN
 obtain ⟨hk,ps,er,pt,hs1,hf1,rfl,he1,hp1⟩:=new_uni hN HOk.out (by decide)
 have H14:=hid (And.intro hk (And.intro hs1 (And.intro hf1 hp1)))
 clear hN hk hs1 hf1 hp1
 --%U
 go_wp2_with fail
 refine (new_any (some ⟨g,0,none⟩) nb nb 32 T w14 (mxr_kept HN.out.1 H14.out.1) HTm.out.2.2.1 HTm.out.2.2.2 (by omega) (by decide) (by decide)).mono ?_
 rintro e w15 hN
 obtain ⟨hk,qs,eq,qt,hs2,hf2,rfl,he2,hp2⟩:=new_uni hN HTm.out.2.1 (by decide)
 have H15:=hid (And.intro hk (And.intro hs2 (And.intro hf2 hp2)))
 have HK15:=hid (HN.out.2.2.2.2.2.trans (H14.out.1.trans hk))
 have hrank:=fun h1 h2 => op_rank (f:=((kf + 1:Nat):Int)) (er:=er) (eq:=eq) (by omega) hp hq HTm.out.1 H14.out.2.1 H15.out.2.1 h1 h2
 have HRk:=hid hrank
 clear hN hk hs2 hf2 hp2 hrank
 --%V
 rcases he1 with rfl | rfl | rfl
 rotate_left
 ·
  rcases he2 with rfl | rfl | rfl
  ·
   exact absurd (HRk.out (by decide) (by decide)) (by decide)
  ·
   go_wp2_with fail
   go_ret
   exact ⟨HK15.out,rfl⟩
  ·
   go_wp2_with fail
   go_ret
   exact ⟨HK15.out,rfl⟩
 ·
  rcases he2 with rfl | rfl | rfl
  all_goals
   go_wp2_with fail
   go_ret
   exact ⟨HK15.out,rfl⟩
 rcases he2 with rfl | rfl | rfl
 rotate_left
 ·
  exact absurd (HRk.out (by decide) (by decide)) (by decide)
 ·
  go_wp2_with fail
  go_ret
  exact ⟨HK15.out,rfl⟩
 obtain ⟨fb,sa,sk,sc,Ss,rfl,hF⟩:=H14.out.2.2.2 rfl
 obtain ⟨fb',sa',sk',sc',Ss',rfl,hF'⟩:=H15.out.2.2.2 rfl
 have hpl:=fac0_len H14.out.2.1
 have hql:=fac0_len H15.out.2.1
 have hsk:sk = nb:=by rw [hF.len,hpl]
 have hsk':sk' = nb:=by rw [hF'.len,hql]
 rw [hsk] at hF
 rw [hsk'] at hF'
 clear hsk hsk'
 have HF:=hid (And.intro (hF.kept H15.out.1) (And.intro hF' (And.intro hpl hql)))
 clear hF hF'
 rw [hpl,hql]
 clear hpl hql
 have hL32:(32:Int).toNat≤32:=by decide
 --%W
 go_wp2_with fail
 refine (solve_full _ fb nb nb (32:Int).toNat sa sc Ss (matF L) (zsB Bs) (zsF Bs) ps bo capb w15 HF.out.1 H14.out.2.2.1 HF.out.2.2.1 H14.out.2.1 hL32 hn48 (by omega) (zsr_q (zsr_kept HL.out.2.1 HK15.out) nb capb HL.out.2.2.2.1) (fun hr => zsr_il (zsr_kept HL.out.2.1 HK15.out) nb capb HL.out.2.2.2.1 hr) (zsr_nil HL.out.2.1 nb HL.out.2.2.2.1)).mono ?_
 rintro e w16 hS
 obtain ⟨hk,xo,xn,xc,s,o,k,c,c1,rfl,hA⟩:=hS.three rfl
 have rS:=RowL.alloc 54 w16 [.slice xo xn xc,.bool s,.slice o k c]
 have kS:=(Kept.refl w16).alloc (.cells #[.slice xo xn xc,.bool s,.slice o k c] 54)
 have HA:=hid hA
 clear hA hS
 --%X
 go_upto_region 27 with fail
 generalize w16.alloc (.cells #[.slice xo xn xc,.bool s,.slice o k c] 54) = w17 at rS kS ⊢
 obtain ⟨pX,hp⟩:∃ p,p = w16.heap.size:=⟨_,rfl⟩
 rw [← hp] at rS ⊢
 have H17:=hid (And.intro (hk.trans kS) (And.intro rS kS))
 clear hp rS kS hk
 go_wp2_with fail
 refine (solve_full _ fb' nb nb (32:Int).toNat sa' sc' Ss' (matF T) (zsB Cs) (zsF Cs) qs (some ⟨gc,0,none⟩) cc w17 (HF.out.2.1.kept H17.out.1) H15.out.2.2.1 HF.out.2.2.2 H15.out.2.1 hL32 hn48 (by omega) (zsr_q (zsr_kept HN.out.2.1 ((H14.out.1.trans H15.out.1).trans H17.out.1)) nb cc HN.out.2.2.1) (fun hr => zsr_il (zsr_kept HN.out.2.1 ((H14.out.1.trans H15.out.1).trans H17.out.1)) nb cc HN.out.2.2.1 hr) (fun h => by cases h)).mono ?_
 rintro e w18 hS
 obtain ⟨hk,yo9,yn,yc,s',o',k',c',c2,rfl,hA⟩:=hS.three rfl
 have rS:=RowL.alloc 54 w18 [.slice yo9 yn yc,.bool s',.slice o' k' c']
 have kS:=(Kept.refl w18).alloc (.cells #[.slice yo9 yn yc,.bool s',.slice o' k' c'] 54)
 have HA2:=hid hA
 clear hA hS
 --%Y
 go_upto_region 28 with fail
 generalize w18.alloc (.cells #[.slice yo9 yn yc,.bool s',.slice o' k' c'] 54) = w19 at rS kS ⊢
 obtain ⟨pY,hp⟩:∃ p,p = w18.heap.size:=⟨_,rfl⟩
 rw [← hp] at rS ⊢
 have H19:=hid (And.intro (hk.trans kS) (And.intro rS kS))
 have HK19:=hid (HK15.out.trans (H17.out.1.trans H19.out.1))
 clear hp rS kS hk
 --%Z
 rcases HA.out with ⟨rfl,hno⟩ | ⟨rfl,hall⟩ | ⟨rfl,hall,hxn,hX1,hD1⟩
 ·
  rcases HA2.out with ⟨rfl,_⟩ | ⟨rfl,hall2⟩ | ⟨rfl,hall2,_⟩
  ·
   go_wp2_with fail
   go_ret
   exact ⟨HK19.out,rfl⟩
  ·
   exact absurd (HN.out.2.2.2.1.1 hall2) hno
  ·
   exact absurd (HN.out.2.2.2.1.1 hall2) hno
 ·
  rcases HA2.out with ⟨rfl,_⟩ | ⟨rfl,hall2⟩ | ⟨rfl,hall2,_⟩
  all_goals
   go_wp2_with fail
   go_ret
   exact ⟨HK19.out,rfl⟩
 rcases HA2.out with ⟨rfl,hno⟩ | ⟨rfl,hall2⟩ | ⟨rfl,hall2,hyn,hX2,hD2⟩
 ·
  exact absurd (HN.out.2.2.2.1.2 hall) hno
 ·
  go_wp2_with fail
  go_ret
  exact ⟨HK19.out,rfl⟩
 subst xn
 subst yn
 have k12:=H17.out.2.2.trans H19.out.1
 have k34:=H19.out.2.2
 have HX:=hid (And.intro (hX1.kept (EN.keeps _) k12) (And.intro (hD1.kept k12) (And.intro (hX2.kept (EN.keeps _) k34) (hD2.kept k34))))
 have HP:=hid (And.intro (H17.out.2.1.kept H19.out.1) H19.out.2.1)
 clear hX1 hD1 hX2 hD2 k12 k34 hall hall2
 have d0:=HP.out.1.cell 0 _ rfl
 --%ZA
 go_wp2_with fail
 go_loopw [207] (fun v207 wr => ∃ j:Nat,j≤nb∧v207 = .int .i64 (j:Int)∧Hid (Kept w19 wr)) (fun v207 _ => nb - (intOf v207).toNat)
 case atStart => exact ⟨0,Nat.zero_le _,rfl,Kept.refl _⟩
 case round =>
  clear d0
  obtain ⟨j,hj,rfl,J⟩:=hrel
  generalize wr = w20 at J ⊢
  by_cases hjt:j < nb
  ·
   have hjj:(j:Int) < (nb:Int):=by omega
   have hj0:(0:Int)≤(j:Int):=by omega
   obtain ⟨x1,s1,a1,n1,c1,rfl,l1,g1,g2,z1,_⟩:=(HX.out.1.kept (EN.keeps _) J.out).at hjt
   obtain ⟨x2,s2,a2,n2,c2,rfl,l2,g3,g4,z2,_⟩:=(HX.out.2.2.1.kept (EN.keeps _) J.out).at hjt
   have HM:=hid (And.intro (And.intro l1.2 (And.intro g1 g2)) (And.intro (And.intro l2.2 (And.intro g3 g4)) (And.intro z1.zi z2.zi)))
   have hfr:=op_sol (f:=((kf + 1:Nat):Int)) (by omega) hp hq HTm.out.1 HN.out.2.2.2.2.1 H14.out.2.2.1 HF.out.2.2.1 H15.out.2.2.1 HF.out.2.2.2 hjt
   have HFr:=hid hfr
   clear l1 g1 g2 z1 l2 g3 g4 z2 hfr
   --%ZB
   go_upto_region 33 with fail
   have KT:Kept w20 w20.drew:=(Kept.refl _).drew
   have sS:=hid (fun (V:World) (K:Kept w20 V) => show (fun w':World => (w'.cell? ⟨pX,0,none⟩ = some (.slice (some ⟨x1,0,none⟩) nb xc)∧w'.cell? ⟨pX,1,none⟩ = some (.bool s)∧w'.cell? ⟨pX,2,none⟩ = some (.slice o k c))∧(w'.cell? ⟨pY,0,none⟩ = some (.slice (some ⟨x2,0,none⟩) nb yc)∧w'.cell? ⟨pY,1,none⟩ = some (.bool s')∧w'.cell? ⟨pY,2,none⟩ = some (.slice o' k' c'))∧(w'.cell? ⟨x1,j * 2,none⟩ = some (.bool s1)∧w'.cell? ⟨x1,j * 2 + 1,none⟩ = some (.slice a1 n1 c1))∧w'.cell? ⟨x2,j * 2,none⟩ = some (.bool s2)∧w'.cell? ⟨x2,j * 2 + 1,none⟩ = some (.slice a2 n2 c2)) V from
    have R1:=HP.out.1.kept (J.out.trans K)
    have R2:=HP.out.2.kept (J.out.trans K)
    ⟨⟨R1.cell 0 _ rfl,R1.cell 1 _ rfl,R1.cell 2 _ rfl⟩,⟨R2.cell 0 _ rfl,R2.cell 1 _ rfl,R2.cell 2 _ rfl⟩,⟨(K.cell (p:=⟨x1,j * 2,none⟩) HM.out.1.1).trans HM.out.1.2.1,(K.cell (p:=⟨x1,j * 2 + 1,none⟩) HM.out.1.1).trans HM.out.1.2.2⟩,(K.cell (p:=⟨x2,j * 2,none⟩) HM.out.2.1.1).trans HM.out.2.1.2.1,(K.cell (p:=⟨x2,j * 2 + 1,none⟩) HM.out.2.1.1).trans HM.out.2.1.2.2⟩)
   refine wp_region_held_drew (S:=fun w' => (w'.cell? ⟨pX,0,none⟩ = some (.slice (some ⟨x1,0,none⟩) nb xc)∧w'.cell? ⟨pX,1,none⟩ = some (.bool s)∧w'.cell? ⟨pX,2,none⟩ = some (.slice o k c))∧(w'.cell? ⟨pY,0,none⟩ = some (.slice (some ⟨x2,0,none⟩) nb yc)∧w'.cell? ⟨pY,1,none⟩ = some (.bool s')∧w'.cell? ⟨pY,2,none⟩ = some (.slice o' k' c'))∧(w'.cell? ⟨x1,j * 2,none⟩ = some (.bool s1)∧w'.cell? ⟨x1,j * 2 + 1,none⟩ = some (.slice a1 n1 c1))∧w'.cell? ⟨x2,j * 2,none⟩ = some (.bool s2)∧w'.cell? ⟨x2,j * 2 + 1,none⟩ = some (.slice a2 n2 c2)) (by kernel_rfl) (sS.out _ KT) (fun hHeld => ?_)
   generalize w20.drew = Wd at KT hHeld ⊢
   refine wk 0 hHeld ?_
   refine wk 1 hHeld ?_
   refine wk 2 hHeld ?_
   refine wk 3 hHeld ?_
   refine wk 4 hHeld ?_
   refine wk 5 hHeld ?_
   refine wk 6 hHeld ?_
   refine wk 7 hHeld ?_
   refine wk 8 hHeld ?_
   refine wk 9 hHeld ?_
   refine wk 10 hHeld ?_
   refine wk 11 hHeld ?_
   refine wk 12 hHeld ?_
   refine wk 13 hHeld ?_
   refine wpAnyH_ready (rs:=[14]) (by kernel_rfl) (by simp) ?_
   refine AllReadyH.cons rfl (fun K hK => ?_) AllReadyH.nil
   --%ZC
   go_simp
   refine (Bm.over14_any s1 s s2 s' a1 o a2 o' n1 c1 k c n2 c2 k' c' _ _ _ _ Wd (HM.out.2.2.1.kept KT) ((HX.out.2.1.kept (J.out.trans KT)).zi) (HM.out.2.2.2.kept KT) ((HX.out.2.2.2.kept (J.out.trans KT)).zi) HFr.out).mono ?_
   rintro e u1 ⟨hu1,rfl⟩
   refine hK.out _ _ (sS.out _ (KT.trans hu1)) (fun hHeld => ?_)
   clear hK K
   have KT:=hid (J.out.trans (KT.trans hu1))
   clear hu1
   refine wk 15 hHeld ?_
   refine wpAnyH_done (by kernel_rfl) ?_ _
   --%ZD
   go_wp2_with fail
   go_roundw
   case rel => exact ⟨j + 1,by omega,by go_num,KT.out⟩
   case measure => show nb - ((j:Int) + 1).toNat < nb - (j:Int).toNat; omega
  ·
   have hjj:¬ (j:Int) < (nb:Int):=by omega
   have d0:=(HP.out.1.kept J.out).cell 0 _ rfl
   --%ZE
   go_wp2_with fail
   go_ret
   exact ⟨HK19.out.trans J.out,rfl⟩
end Bp
end Go.Proofs.YtdcfammglpebaaaGreat
