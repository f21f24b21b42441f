/- shuntlaw14.BareissOrder's two swaps. (mk_bf7.py) -/
import Derived.Test.YtdcfammglpebaaaGreatGaw
import Derived.Test.YtdcfammglpebaaaGreatGad
namespace Go.Proofs.YtdcfammglpebaaaGreat
open Go.RowKit
open V (RowL RowL.alloc RowL.lt RowL.cell RowL.fz RowL.kept RowL.set RowL.far)
open Sp (hid vrow vrow_at own_kept own_keptK own_shape own_cell)
open Sy
open Ba (tr2)
namespace Bp
set_option maxRecDepth 100000 in
set_option maxHeartbeats 40000000 in
theorem swap8 {KK:Act→World→Prop} {RR:Ending→World→Prop} {w3 w6:World} {B g nb gc cc p q rlp rl vpc vqc:Nat} {vpa vqa:Option Addr} {hs0:Nat→Value} {C0:Nat→List CE} {Bs:List ZE} {u0 u1 u2 u3 u4 u5 u6 u8 u9 u12 u13 u14 u15 u16 u17 u18 u19 u20 u21 u22 u23 u24 u25 u26 u27 u28 u29 u30 u31 u32 u33 u34 u35 u36 u37 u38 u39 u40 u41 u42 u43 u44 u45 u46 u47 u48 u49 u50 u51 u52 u53 u54 u55 u56 u57 u58 u59 u60 u61 u62 u63 u64 u65 u66 u67 u68 u69 u70 u71 u72 u73 u74 u75 u76 u77 u78 u79 u80 u81 u82 u83 u84 u85 u86 u87 u88 u89 u90 u91 u92 u93 u94 u95 u96 u97 u98 u99 u100 u101 u102 u103 u104 u105 u106 u107 u108 u109 u110 u111 u112 u113 u114 u115 u116 u117 u118 u119 u120 u121 u122 u123 u124 u125 u126 u127 u128 u129 u130 u131 u132 u133 u134 u135 u136 u137 u138 u139 u140 u141 u142 u143 u144 u145 u146 u147 u148 u149 u150 u151 u152 u153 u154 u155 u156 u157 u158 u159 u160 u161 u162 u163 u164 u165 u166 u167 u168 u169 u170 u171 u172 u173 u174 u175 u176 u177 u178 u179 u180 u181 u182 u183 u184 u185 u186 u187 u188 u189 u190 u191 u192 u193 u194 u195 u196 u197 u198 u199 u200 u201 u202 u203 u204 u205 u206 u207 u208 u209 u210 u211 u212 u213 u214 u215 u216 u217 u218 u219 u220 u221 u222 u223 u224 u225 u226 u227 u228 u229 u230 u231:Value} (HO:Hid (OS w3 w6 B g nb hs0 C0 gc cc Bs)) (hp:p < nb) (hq:q < nb) (hvp:hs0 p = .slice vpa rlp vpc) (hvq:hs0 q = .slice vqa rl vqc)
  (hKK:∀ (x67 x68 x69 x70 x71 x72 x73 x74 x75 x76 x77 x78 x79 x80:Value) (w':World),Hid (OS w3 w' B g nb (fun j => hs0 (tr2 p q j)) (fun j => C0 (tr2 p q j)) gc cc Bs)→KK ⟨(u0 :: u1 :: u2 :: u3 :: u4 :: u5 :: u6 :: (.slice (some ⟨g,0,none⟩) nb nb) :: u8 :: u9 :: (.int .i64 (p:Int)) :: (.int .i64 (q:Int)) :: u12 :: u13 :: u14 :: u15 :: u16 :: u17 :: u18 :: u19 :: u20 :: u21 :: u22 :: u23 :: u24 :: u25 :: u26 :: u27 :: u28 :: u29 :: u30 :: u31 :: u32 :: u33 :: u34 :: u35 :: u36 :: u37 :: u38 :: u39 :: u40 :: u41 :: u42 :: u43 :: u44 :: u45 :: u46 :: u47 :: u48 :: u49 :: u50 :: u51 :: u52 :: u53 :: u54 :: u55 :: u56 :: u57 :: u58 :: u59 :: u60 :: u61 :: u62 :: u63 :: u64 :: u65 :: u66 :: x67 :: x68 :: x69 :: x70 :: x71 :: x72 :: x73 :: x74 :: x75 :: x76 :: x77 :: x78 :: x79 :: x80 :: u81 :: u82 :: u83 :: u84 :: u85 :: u86 :: u87 :: u88 :: u89 :: u90 :: u91 :: u92 :: u93 :: u94 :: u95 :: u96 :: u97 :: u98 :: u99 :: u100 :: u101 :: u102 :: u103 :: u104 :: u105 :: u106 :: u107 :: u108 :: u109 :: u110 :: u111 :: u112 :: u113 :: u114 :: u115 :: u116 :: u117 :: u118 :: u119 :: u120 :: u121 :: u122 :: u123 :: u124 :: u125 :: u126 :: u127 :: u128 :: u129 :: u130 :: u131 :: u132 :: u133 :: u134 :: u135 :: u136 :: u137 :: u138 :: u139 :: u140 :: u141 :: u142 :: u143 :: u144 :: u145 :: u146 :: u147 :: u148 :: u149 :: u150 :: u151 :: u152 :: u153 :: u154 :: u155 :: u156 :: u157 :: u158 :: u159 :: u160 :: u161 :: u162 :: u163 :: u164 :: u165 :: u166 :: u167 :: u168 :: u169 :: u170 :: u171 :: u172 :: u173 :: u174 :: u175 :: u176 :: u177 :: u178 :: u179 :: u180 :: u181 :: u182 :: u183 :: u184 :: u185 :: u186 :: u187 :: u188 :: u189 :: u190 :: u191 :: u192 :: u193 :: u194 :: u195 :: u196 :: u197 :: u198 :: u199 :: u200 :: u201 :: u202 :: u203 :: u204 :: u205 :: u206 :: u207 :: u208 :: u209 :: u210 :: u211 :: u212 :: u213 :: u214 :: u215 :: u216 :: u217 :: u218 :: u219 :: u220 :: u221 :: u222 :: u223 :: u224 :: u225 :: u226 :: u227 :: u228 :: u229 :: u230 :: u231 :: []).toArray,[]⟩ w') :
  (regF Tryz.f6 8).wp Tryz.prog (Exit.then KK (bodyPost Tryz.prog Tryz.f6 RR)) ⟨(u0 :: u1 :: u2 :: u3 :: u4 :: u5 :: u6 :: (.slice (some ⟨g,0,none⟩) nb nb) :: u8 :: u9 :: (.int .i64 (p:Int)) :: (.int .i64 (q:Int)) :: u12 :: u13 :: u14 :: u15 :: u16 :: u17 :: u18 :: u19 :: u20 :: u21 :: u22 :: u23 :: u24 :: u25 :: u26 :: u27 :: u28 :: u29 :: u30 :: u31 :: u32 :: u33 :: u34 :: u35 :: u36 :: u37 :: u38 :: u39 :: u40 :: u41 :: u42 :: u43 :: u44 :: u45 :: u46 :: u47 :: u48 :: u49 :: u50 :: u51 :: u52 :: u53 :: u54 :: u55 :: u56 :: u57 :: u58 :: u59 :: u60 :: u61 :: u62 :: u63 :: u64 :: u65 :: u66 :: u67 :: u68 :: u69 :: u70 :: u71 :: u72 :: u73 :: u74 :: u75 :: u76 :: u77 :: u78 :: u79 :: u80 :: u81 :: u82 :: u83 :: u84 :: u85 :: u86 :: u87 :: u88 :: u89 :: u90 :: u91 :: u92 :: u93 :: u94 :: u95 :: u96 :: u97 :: u98 :: u99 :: u100 :: u101 :: u102 :: u103 :: u104 :: u105 :: u106 :: u107 :: u108 :: u109 :: u110 :: u111 :: u112 :: u113 :: u114 :: u115 :: u116 :: u117 :: u118 :: u119 :: u120 :: u121 :: u122 :: u123 :: u124 :: u125 :: u126 :: u127 :: u128 :: u129 :: u130 :: u131 :: u132 :: u133 :: u134 :: u135 :: u136 :: u137 :: u138 :: u139 :: u140 :: u141 :: u142 :: u143 :: u144 :: u145 :: u146 :: u147 :: u148 :: u149 :: u150 :: u151 :: u152 :: u153 :: u154 :: u155 :: u156 :: u157 :: u158 :: u159 :: u160 :: u161 :: u162 :: u163 :: u164 :: u165 :: u166 :: u167 :: u168 :: u169 :: u170 :: u171 :: u172 :: u173 :: u174 :: u175 :: u176 :: u177 :: u178 :: u179 :: u180 :: u181 :: u182 :: u183 :: u184 :: u185 :: u186 :: u187 :: u188 :: u189 :: u190 :: u191 :: u192 :: u193 :: u194 :: u195 :: u196 :: u197 :: u198 :: u199 :: u200 :: u201 :: u202 :: u203 :: u204 :: u205 :: u206 :: u207 :: u208 :: u209 :: u210 :: u211 :: u212 :: u213 :: u214 :: u215 :: u216 :: u217 :: u218 :: u219 :: u220 :: u221 :: u222 :: u223 :: u224 :: u225 :: u226 :: u227 :: u228 :: u229 :: u230 :: u231 :: []).toArray,[]⟩ w6:=by
 have HV:=hid (And.intro hvp hvq)
 have cP:=HO.out.grid.row.cell p _ (vrow_at hp)
 have cQ:=HO.out.grid.row.cell q _ (vrow_at hq)
 have fP:=HO.out.grid.row.fz p
 have fQ:=HO.out.grid.row.fz q
 rw [hvp] at cP
 rw [hvq] at cQ
 clear hvp hvq
 have hpn:(p:Int) < (nb:Int):=by omega
 have hqn:(q:Int) < (nb:Int):=by omega
 have hp0:(0:Int)≤(p:Int):=by omega
 have hq0:(0:Int)≤(q:Int):=by omega
 have KT:Kept w6 w6.drew:=(Kept.refl _).drew
 have HO:=hid (HO.out.later KT)
 have cP:w6.drew.cell? ⟨g,p,none⟩ = some (.slice vpa rlp vpc):=cP
 have cQ:w6.drew.cell? ⟨g,q,none⟩ = some (.slice vqa rl vqc):=cQ
 have fP:w6.drew.frozen? ⟨g,p,none⟩ = false:=fP
 have fQ:w6.drew.frozen? ⟨g,q,none⟩ = false:=fQ
 refine wp_region_held_drew (S:=fun _ => True) (by kernel_rfl) trivial (fun hHeld => ?_)
 generalize w6.drew = Wd at cP cQ fP fQ HO hHeld ⊢
 refine wk 0 hHeld ?_
 refine wk 1 hHeld ?_
 refine wk 2 hHeld ?_
 refine wk 3 hHeld ?_
 refine wk 4 hHeld ?_
 refine wk 5 hHeld ?_
 refine wk 6 hHeld ?_
 refine wk 8 hHeld ?_
 refine wk 9 hHeld ?_
 refine wk 10 hHeld ?_
 have HF:=hid (fun (W2:World) (e:W2 = (Wd.setCell ⟨g,p,none⟩ (.slice vqa rl vqc)).setCell ⟨g,q,none⟩ (.slice vpa rlp vpc)) => show OS w3 W2 B g nb (fun j => hs0 (tr2 p q j)) (fun j => C0 (tr2 p q j)) gc cc Bs from by
  have:=HO.out.swapG hp hq
  rw [HV.out.1,HV.out.2] at this
  rw [e]; exact this)
 refine wpAnyH_ready (rs:=[7,11]) (by kernel_rfl) (by simp) ?_
 refine AllReadyH.cons rfl (fun K hK => ?_) (AllReadyH.cons rfl (fun K hK => ?_) AllReadyH.nil)
 ·
  go_simp
  refine hK.out _ _ trivial (fun hHeld => ?_)
  clear hK K
  refine wpAnyH_ready (rs:=[11]) (by kernel_rfl) (by simp) ?_
  refine AllReadyH.cons rfl (fun K hK => ?_) AllReadyH.nil
  go_simp
  refine hK.out _ _ trivial (fun hHeld => ?_)
  clear hK K
  refine wk 12 hHeld ?_
  refine wpAnyH_ready (rs:=[13]) (by kernel_rfl) (by simp) ?_
  refine AllReadyH.cons rfl (fun K hK => ?_) AllReadyH.nil
  go_simp
  refine hK.out _ _ trivial (fun hHeld => ?_)
  clear hK K
  clear cP cQ fP fQ
  have rr:=HO.out.grid.row.set p (.slice vqa rl vqc)
  obtain ⟨xx,hxx⟩:=vrow_some (hs:=hs0) hq p (.slice vqa rl vqc)
  have cQ:=rr.cell q xx hxx
  have fQ:=rr.fz q
  generalize hW1:Wd.setCell ⟨g,p,none⟩ (.slice vqa rl vqc) = W1 at cQ fQ hHeld ⊢
  refine wk 14 hHeld ?_
  refine wpAnyH_ready (rs:=[15]) (by kernel_rfl) (by simp) ?_
  refine AllReadyH.cons rfl (fun K hK => ?_) AllReadyH.nil
  go_simp
  refine hK.out _ _ trivial (fun hHeld => ?_)
  clear hK K
  refine wpAnyH_done (by kernel_rfl) ?_ _
  show KK _ _
  go_simp
  exact hKK _ _ _ _ _ _ _ _ _ _ _ _ _ _ _ (hid (HF.out _ (by rw [hW1])))
 ·
  go_simp
  refine hK.out _ _ trivial (fun hHeld => ?_)
  clear hK K
  refine wpAnyH_ready (rs:=[7]) (by kernel_rfl) (by simp) ?_
  refine AllReadyH.cons rfl (fun K hK => ?_) AllReadyH.nil
  go_simp
  refine hK.out _ _ trivial (fun hHeld => ?_)
  clear hK K
  refine wk 12 hHeld ?_
  refine wpAnyH_ready (rs:=[13]) (by kernel_rfl) (by simp) ?_
  refine AllReadyH.cons rfl (fun K hK => ?_) AllReadyH.nil
  go_simp
  refine hK.out _ _ trivial (fun hHeld => ?_)
  clear hK K
  clear cP cQ fP fQ
  have rr:=HO.out.grid.row.set p (.slice vqa rl vqc)
  obtain ⟨xx,hxx⟩:=vrow_some (hs:=hs0) hq p (.slice vqa rl vqc)
  have cQ:=rr.cell q xx hxx
  have fQ:=rr.fz q
  generalize hW1:Wd.setCell ⟨g,p,none⟩ (.slice vqa rl vqc) = W1 at cQ fQ hHeld ⊢
  refine wk 14 hHeld ?_
  refine wpAnyH_ready (rs:=[15]) (by kernel_rfl) (by simp) ?_
  refine AllReadyH.cons rfl (fun K hK => ?_) AllReadyH.nil
  go_simp
  refine hK.out _ _ trivial (fun hHeld => ?_)
  clear hK K
  refine wpAnyH_done (by kernel_rfl) ?_ _
  show KK _ _
  go_simp
  exact hKK _ _ _ _ _ _ _ _ _ _ _ _ _ _ _ (hid (HF.out _ (by rw [hW1])))
set_option maxRecDepth 100000 in
set_option maxHeartbeats 40000000 in
theorem swap9 {KK:Act→World→Prop} {RR:Ending→World→Prop} {w3 w7:World} {B g nb gc cc p q kp kq zpc zqc:Nat} {zpo zqo:Option Addr} {mp mq:Bool} {zpl zql:List Nat} {hs0:Nat→Value} {C0:Nat→List CE} {Bs:List ZE} {u0 u1 u2 u3 u4 u5 u6 u7 u9 u12 u13 u14 u15 u16 u17 u18 u19 u20 u21 u22 u23 u24 u25 u26 u27 u28 u29 u30 u31 u32 u33 u34 u35 u36 u37 u38 u39 u40 u41 u42 u43 u44 u45 u46 u47 u48 u49 u50 u51 u52 u53 u54 u55 u56 u57 u58 u59 u60 u61 u62 u63 u64 u65 u66 u67 u68 u69 u70 u71 u72 u73 u74 u75 u76 u77 u78 u79 u80 u81 u82 u83 u84 u85 u86 u87 u88 u89 u90 u91 u92 u93 u94 u95 u96 u97 u98 u99 u100 u101 u102 u103 u104 u105 u106 u107 u108 u109 u110 u111 u112 u113 u114 u115 u116 u117 u118 u119 u120 u121 u122 u123 u124 u125 u126 u127 u128 u129 u130 u131 u132 u133 u134 u135 u136 u137 u138 u139 u140 u141 u142 u143 u144 u145 u146 u147 u148 u149 u150 u151 u152 u153 u154 u155 u156 u157 u158 u159 u160 u161 u162 u163 u164 u165 u166 u167 u168 u169 u170 u171 u172 u173 u174 u175 u176 u177 u178 u179 u180 u181 u182 u183 u184 u185 u186 u187 u188 u189 u190 u191 u192 u193 u194 u195 u196 u197 u198 u199 u200 u201 u202 u203 u204 u205 u206 u207 u208 u209 u210 u211 u212 u213 u214 u215 u216 u217 u218 u219 u220 u221 u222 u223 u224 u225 u226 u227 u228 u229 u230 u231:Value} (HO:Hid (OS w3 w7 B g nb hs0 C0 gc cc Bs)) (hp:p < nb) (hq:q < nb) (hpB:p < Bs.length) (hqB:q < Bs.length) (hzp:(⟨mp,zpo,zpc,zpl⟩:ZE) = Bs[p]) (hzq:(⟨mq,zqo,zqc,zql⟩:ZE) = Bs[q]) (hkp:kp = zpl.length) (hkq:kq = zql.length)
  (hKK:∀ (x81 x82 x83 x84 x85 x86 x87 x88 x89 x90 x91 x92 x93 x94:Value) (w':World),Hid (OS w3 w' B g nb hs0 C0 gc cc ((Bs.set p ⟨mq,zqo,zqc,zql⟩).set q ⟨mp,zpo,zpc,zpl⟩))→KK ⟨(u0 :: u1 :: u2 :: u3 :: u4 :: u5 :: u6 :: u7 :: (.slice (some ⟨gc,0,none⟩) nb cc) :: u9 :: (.int .i64 (p:Int)) :: (.int .i64 (q:Int)) :: u12 :: u13 :: u14 :: u15 :: u16 :: u17 :: u18 :: u19 :: u20 :: u21 :: u22 :: u23 :: u24 :: u25 :: u26 :: u27 :: u28 :: u29 :: u30 :: u31 :: u32 :: u33 :: u34 :: u35 :: u36 :: u37 :: u38 :: u39 :: u40 :: u41 :: u42 :: u43 :: u44 :: u45 :: u46 :: u47 :: u48 :: u49 :: u50 :: u51 :: u52 :: u53 :: u54 :: u55 :: u56 :: u57 :: u58 :: u59 :: u60 :: u61 :: u62 :: u63 :: u64 :: u65 :: u66 :: u67 :: u68 :: u69 :: u70 :: u71 :: u72 :: u73 :: u74 :: u75 :: u76 :: u77 :: u78 :: u79 :: u80 :: x81 :: x82 :: x83 :: x84 :: x85 :: x86 :: x87 :: x88 :: x89 :: x90 :: x91 :: x92 :: x93 :: x94 :: u95 :: u96 :: u97 :: u98 :: u99 :: u100 :: u101 :: u102 :: u103 :: u104 :: u105 :: u106 :: u107 :: u108 :: u109 :: u110 :: u111 :: u112 :: u113 :: u114 :: u115 :: u116 :: u117 :: u118 :: u119 :: u120 :: u121 :: u122 :: u123 :: u124 :: u125 :: u126 :: u127 :: u128 :: u129 :: u130 :: u131 :: u132 :: u133 :: u134 :: u135 :: u136 :: u137 :: u138 :: u139 :: u140 :: u141 :: u142 :: u143 :: u144 :: u145 :: u146 :: u147 :: u148 :: u149 :: u150 :: u151 :: u152 :: u153 :: u154 :: u155 :: u156 :: u157 :: u158 :: u159 :: u160 :: u161 :: u162 :: u163 :: u164 :: u165 :: u166 :: u167 :: u168 :: u169 :: u170 :: u171 :: u172 :: u173 :: u174 :: u175 :: u176 :: u177 :: u178 :: u179 :: u180 :: u181 :: u182 :: u183 :: u184 :: u185 :: u186 :: u187 :: u188 :: u189 :: u190 :: u191 :: u192 :: u193 :: u194 :: u195 :: u196 :: u197 :: u198 :: u199 :: u200 :: u201 :: u202 :: u203 :: u204 :: u205 :: u206 :: u207 :: u208 :: u209 :: u210 :: u211 :: u212 :: u213 :: u214 :: u215 :: u216 :: u217 :: u218 :: u219 :: u220 :: u221 :: u222 :: u223 :: u224 :: u225 :: u226 :: u227 :: u228 :: u229 :: u230 :: u231 :: []).toArray,[]⟩ w') :
  (regF Tryz.f6 9).wp Tryz.prog (Exit.then KK (bodyPost Tryz.prog Tryz.f6 RR)) ⟨(u0 :: u1 :: u2 :: u3 :: u4 :: u5 :: u6 :: u7 :: (.slice (some ⟨gc,0,none⟩) nb cc) :: u9 :: (.int .i64 (p:Int)) :: (.int .i64 (q:Int)) :: u12 :: u13 :: u14 :: u15 :: u16 :: u17 :: u18 :: u19 :: u20 :: u21 :: u22 :: u23 :: u24 :: u25 :: u26 :: u27 :: u28 :: u29 :: u30 :: u31 :: u32 :: u33 :: u34 :: u35 :: u36 :: u37 :: u38 :: u39 :: u40 :: u41 :: u42 :: u43 :: u44 :: u45 :: u46 :: u47 :: u48 :: u49 :: u50 :: u51 :: u52 :: u53 :: u54 :: u55 :: u56 :: u57 :: u58 :: u59 :: u60 :: u61 :: u62 :: u63 :: u64 :: u65 :: u66 :: u67 :: u68 :: u69 :: u70 :: u71 :: u72 :: u73 :: u74 :: u75 :: u76 :: u77 :: u78 :: u79 :: u80 :: u81 :: u82 :: u83 :: u84 :: u85 :: u86 :: u87 :: u88 :: u89 :: u90 :: u91 :: u92 :: u93 :: u94 :: u95 :: u96 :: u97 :: u98 :: u99 :: u100 :: u101 :: u102 :: u103 :: u104 :: u105 :: u106 :: u107 :: u108 :: u109 :: u110 :: u111 :: u112 :: u113 :: u114 :: u115 :: u116 :: u117 :: u118 :: u119 :: u120 :: u121 :: u122 :: u123 :: u124 :: u125 :: u126 :: u127 :: u128 :: u129 :: u130 :: u131 :: u132 :: u133 :: u134 :: u135 :: u136 :: u137 :: u138 :: u139 :: u140 :: u141 :: u142 :: u143 :: u144 :: u145 :: u146 :: u147 :: u148 :: u149 :: u150 :: u151 :: u152 :: u153 :: u154 :: u155 :: u156 :: u157 :: u158 :: u159 :: u160 :: u161 :: u162 :: u163 :: u164 :: u165 :: u166 :: u167 :: u168 :: u169 :: u170 :: u171 :: u172 :: u173 :: u174 :: u175 :: u176 :: u177 :: u178 :: u179 :: u180 :: u181 :: u182 :: u183 :: u184 :: u185 :: u186 :: u187 :: u188 :: u189 :: u190 :: u191 :: u192 :: u193 :: u194 :: u195 :: u196 :: u197 :: u198 :: u199 :: u200 :: u201 :: u202 :: u203 :: u204 :: u205 :: u206 :: u207 :: u208 :: u209 :: u210 :: u211 :: u212 :: u213 :: u214 :: u215 :: u216 :: u217 :: u218 :: u219 :: u220 :: u221 :: u222 :: u223 :: u224 :: u225 :: u226 :: u227 :: u228 :: u229 :: u230 :: u231 :: []).toArray,[]⟩ w7:=by
 have hlen:=HO.out.len
 have hcell:∀ i (hi:i < Bs.length) (V:World),V.ownsRow B 37 2 (.slice (some ⟨gc,0,none⟩) nb cc) nb (Bs.flatMap ZE.cells)→V.cell? ⟨gc,i * 2,none⟩ = some (.bool Bs[i].neg)∧V.cell? ⟨gc,i * 2 + 1,none⟩ = some Bs[i].v:=fun i hi V ho => by
  exact ⟨(ho.cellAt _ (by omega)).trans (flat2_at (q:=0) hi rfl),(ho.cellAt _ (by omega)).trans (flat2_at (q:=1) hi rfl)⟩
 have KT:Kept w7 w7.drew:=(Kept.refl _).drew
 have HO:=hid (HO.out.later KT)
 have dP:=hcell p hpB w7.drew HO.out.cl
 have dQ:=hcell q hqB w7.drew HO.out.cl
 rw [← hzp] at dP
 rw [← hzq] at dQ
 unfold ZE.v at dP dQ
 dsimp only at dP dQ
 rw [← hkp] at dP
 rw [← hkq] at dQ
 obtain ⟨dP0,dP1⟩:=dP
 obtain ⟨dQ0,dQ1⟩:=dQ
 have HZ:=hid (And.intro hzp (And.intro hzq (And.intro hkp hkq)))
 have fG:=HO.out.cl.frozenAt
 clear hzp hzq hkp hkq hcell
 have hpn:(p:Int) < (nb:Int):=by omega
 have hqn:(q:Int) < (nb:Int):=by omega
 have hp0:(0:Int)≤(p:Int):=by omega
 have hq0:(0:Int)≤(q:Int):=by omega
 refine wp_region_held_drew (S:=fun _ => True) (by kernel_rfl) trivial (fun hHeld => ?_)
 generalize w7.drew = Wd at dP0 dP1 dQ0 dQ1 fG HO hHeld ⊢
 have f0:=fG (p * 2)
 have f1:=fG (p * 2 + 1)
 have f2:=fG (q * 2)
 have f3:=fG (q * 2 + 1)
 clear fG
 refine wk 0 hHeld ?_
 refine wk 1 hHeld ?_
 refine wk 2 hHeld ?_
 refine wk 3 hHeld ?_
 refine wk 4 hHeld ?_
 refine wk 5 hHeld ?_
 refine wk 6 hHeld ?_
 refine wk 8 hHeld ?_
 refine wk 9 hHeld ?_
 refine wk 10 hHeld ?_
 have HF:=hid (fun (W2:World) (e:W2 = (((Wd.setCell ⟨gc,p * 2,none⟩ (.bool mq)).setCell ⟨gc,p * 2 + 1,none⟩ (.slice zqo kq zqc)).setCell ⟨gc,q * 2,none⟩ (.bool mp)).setCell ⟨gc,q * 2 + 1,none⟩ (.slice zpo kp zpc)) => show OS w3 W2 B g nb hs0 C0 gc cc ((Bs.set p ⟨mq,zqo,zqc,zql⟩).set q ⟨mp,zpo,zpc,zpl⟩) from by
  have:=(HO.out.putC ⟨mq,zqo,zqc,zql⟩ hp (HO.out.ok _ (by rw [HZ.out.2.1]; exact List.getElem_mem hqB))).putC ⟨mp,zpo,zpc,zpl⟩ hq ((HO.out.ok _ (by rw [HZ.out.1]; exact List.getElem_mem hpB)).imp id fun h => New_kx h (((KX.refl Wd).setCell (T:=fun k => k = gc) (p:=⟨gc,p * 2,none⟩) (.inl rfl) _).setCell (p:=⟨gc,p * 2 + 1,none⟩) (.inl rfl) _) (HO.out.fr (by decide)))
  unfold ZE.v at this
  dsimp only at this
  rw [← HZ.out.2.2.1,← HZ.out.2.2.2] at this
  rw [e]; exact this)
 refine wpAnyH_ready (rs:=[7,11]) (by kernel_rfl) (by simp) ?_
 refine AllReadyH.cons rfl (fun K hK => ?_) (AllReadyH.cons rfl (fun K hK => ?_) AllReadyH.nil)
 ·
  go_simp
  refine hK.out _ _ trivial (fun hHeld => ?_)
  clear hK K
  refine wpAnyH_ready (rs:=[11]) (by kernel_rfl) (by simp) ?_
  refine AllReadyH.cons rfl (fun K hK => ?_) AllReadyH.nil
  go_simp
  refine hK.out _ _ trivial (fun hHeld => ?_)
  clear hK K
  refine wk 12 hHeld ?_
  refine wpAnyH_ready (rs:=[13]) (by kernel_rfl) (by simp) ?_
  refine AllReadyH.cons rfl (fun K hK => ?_) AllReadyH.nil
  go_simp
  refine hK.out _ _ trivial (fun hHeld => ?_)
  clear hK K
  clear dP0 dP1 dQ0 dQ1 f0 f1 f2 f3
  have ho2:=((HO.out.cl.stored (p * 2) (.bool mq)).1.stored (p * 2 + 1) (.slice zqo kq zqc)).1
  obtain ⟨xa,hxa⟩:=own_some ho2 (show q * 2 < nb * 2 by omega)
  obtain ⟨xb,hxb⟩:=own_some ho2 (show q * 2 + 1 < nb * 2 by omega)
  have f2:=ho2.frozenAt (q * 2)
  have f3:=ho2.frozenAt (q * 2 + 1)
  generalize hW1:(Wd.setCell ⟨gc,p * 2,none⟩ (.bool mq)).setCell ⟨gc,p * 2 + 1,none⟩ (.slice zqo kq zqc) = W1 at hxa hxb f2 f3 hHeld ⊢
  clear ho2
  refine wk 14 hHeld ?_
  refine wpAnyH_ready (rs:=[15]) (by kernel_rfl) (by simp) ?_
  refine AllReadyH.cons rfl (fun K hK => ?_) AllReadyH.nil
  go_simp
  refine hK.out _ _ trivial (fun hHeld => ?_)
  clear hK K
  refine wpAnyH_done (by kernel_rfl) ?_ _
  show KK _ _
  go_simp
  exact hKK _ _ _ _ _ _ _ _ _ _ _ _ _ _ _ (hid (HF.out _ (by rw [hW1])))
 ·
  go_simp
  refine hK.out _ _ trivial (fun hHeld => ?_)
  clear hK K
  refine wpAnyH_ready (rs:=[7]) (by kernel_rfl) (by simp) ?_
  refine AllReadyH.cons rfl (fun K hK => ?_) AllReadyH.nil
  go_simp
  refine hK.out _ _ trivial (fun hHeld => ?_)
  clear hK K
  refine wk 12 hHeld ?_
  refine wpAnyH_ready (rs:=[13]) (by kernel_rfl) (by simp) ?_
  refine AllReadyH.cons rfl (fun K hK => ?_) AllReadyH.nil
  go_simp
  refine hK.out _ _ trivial (fun hHeld => ?_)
  clear hK K
  clear dP0 dP1 dQ0 dQ1 f0 f1 f2 f3
  have ho2:=((HO.out.cl.stored (p * 2) (.bool mq)).1.stored (p * 2 + 1) (.slice zqo kq zqc)).1
  obtain ⟨xa,hxa⟩:=own_some ho2 (show q * 2 < nb * 2 by omega)
  obtain ⟨xb,hxb⟩:=own_some ho2 (show q * 2 + 1 < nb * 2 by omega)
  have f2:=ho2.frozenAt (q * 2)
  have f3:=ho2.frozenAt (q * 2 + 1)
  generalize hW1:(Wd.setCell ⟨gc,p * 2,none⟩ (.bool mq)).setCell ⟨gc,p * 2 + 1,none⟩ (.slice zqo kq zqc) = W1 at hxa hxb f2 f3 hHeld ⊢
  clear ho2
  refine wk 14 hHeld ?_
  refine wpAnyH_ready (rs:=[15]) (by kernel_rfl) (by simp) ?_
  refine AllReadyH.cons rfl (fun K hK => ?_) AllReadyH.nil
  go_simp
  refine hK.out _ _ trivial (fun hHeld => ?_)
  clear hK K
  refine wpAnyH_done (by kernel_rfl) ?_ _
  show KK _ _
  go_simp
  exact hKK _ _ _ _ _ _ _ _ _ _ _ _ _ _ _ (hid (HF.out _ (by rw [hW1])))
end Bp
end Go.Proofs.YtdcfammglpebaaaGreat
