/- shuntref14.Solved: its walk from the way back on. (mk_ft9.py) -/
import Derived.Test.YtdcgdpbgnijnpaaGreatGba
namespace Go.Proofs.YtdcgdpbgnijnpaaGreat
open Go.RowKit
open V (RowL RowL.alloc RowL.lt RowL.cell RowL.fz RowL.kept RowL.block RowL.set RowL.far)
open Sp (hid own_kept own_keptK own_row own_shape info_parts)
open X (zk zr zl zd region_z anyZ_ready AllZ AllZ.cons AllZ.nil)
open Ba (stg lastP pivs leftR leftC wideZ wideM nz facGo facS Fits leftR_iff leftC_iff stg_snoc stg_exact stg_col last_ne pivs_take ext)
open Sy
namespace Bp
theorem NO.low {A:Nat→Prop} {P P' K n:Nat} {zs:Nat→Int} {w:World} {v:Value} (h:NO A P K zs w v n) (hP:P'≤P):NO A P' K zs w v n:=by
 obtain ⟨xs,ho,hA,hx⟩:=h
 exact ⟨xs,⟨ho.1,ho.2.imp id fun ⟨g,cap,cur,e,hp,r⟩ => ⟨g,cap,cur,e,Nat.le_trans hP hp,r⟩⟩,hA,hx⟩
def xF (ps:List (Nat × Nat)) (X:Nat→Int) (k c:Nat):Int:=if ((ps.drop k).map Prod.snd).contains c then X c else 0
theorem xF_in {ps:List (Nat × Nat)} {X:Nat→Int} {k j:Nat} (hj:j < ps.length) (hk:k≤j):xF ps X k ps[j].2 = X ps[j].2:=by
 unfold xF
 rw [if_pos]
 rw [List.contains_iff_mem]
 refine List.mem_map.2 ⟨ps[j],?_,rfl⟩
 refine List.mem_iff_getElem.2 ⟨j - k,by rw [List.length_drop]; omega,?_⟩
 rw [List.getElem_drop]
 congr 1
 omega
theorem xF_end {ps:List (Nat × Nat)} {X:Nat→Int}:xF ps X ps.length = fun _ => 0:=by
 funext c
 unfold xF
 rw [List.drop_length]
 rfl
theorem xF_upd {ps:List (Nat × Nat)} {X:Nat→Int} {k:Nat} (hk:k < ps.length):upd (xF ps X (k + 1)) ps[k].2 (X ps[k].2) = xF ps X k:=by
 funext c
 unfold upd xF
 rw [List.drop_eq_getElem_cons hk,List.map_cons,List.contains_cons]
 by_cases e:c = ps[k].2
 ·
  rw [if_pos e,e]; simp
 ·
  rw [if_neg e]
  have:(c == ps[k].2) = false:=by simpa using e
  rw [this,Bool.false_or]
theorem xF_all {n:Nat} {M:Nat→Nat→Int} {ps:List (Nat × Nat)} {X:Nat→Int} (h:Fits n M ps) (hl:ps.length = n) {c:Nat} (hc:c < n):xF ps X 0 c = X c:=by
 obtain ⟨j,hj,e⟩:=List.mem_iff_getElem.1 (all_cols h hl hc)
 rw [List.length_map] at hj
 rw [List.getElem_map] at e
 rw [← e]
 exact xF_in hj (Nat.zero_le _)
theorem SgR.all {A:Nat→Prop} {n:Nat} {M:Nat→Nat→Int} {ps:List (Nat × Nat)} {w:World} {ao:Option Addr} {k cap:Nat} (h:SgR A n M ps w (.slice ao k cap)) (h0:0 < ps.length):∃ b,ao = some ⟨b,0,none⟩∧∀ j (hj:j < ps.length),∃ so sc,(∀ V,KX A w V→V.cell? ⟨b,j * 3,none⟩ = some (.int .i64 (ps[j].1:Int))∧V.cell? ⟨b,j * 3 + 1,none⟩ = some (.int .i64 (ps[j].2:Int))∧V.cell? ⟨b,j * 3 + 2,none⟩ = some (.slice so n sc))∧MNA A 144 n (mF M (ps.take j)) w (.slice so n sc) n:=by
 obtain ⟨b,_,_,e,_⟩:=h.at h0
 refine ⟨b,e,fun j hj => ?_⟩
 obtain ⟨b',so,sc,e',hc,hm⟩:=h.at hj
 rw [e] at e'
 injection e' with e'
 injection e' with e'
 subst e'
 exact ⟨so,sc,hc,hm⟩
def VB (w:World) (p:Nat) (z:Int):Prop:=∃ s o k c,RowL 51 w p [.bool s,.slice o k c]∧D.NIs w s (.slice o k c) z∧k≤200
theorem VB.kept {w w':World} {p:Nat} {z:Int} (h:VB w p z) (k:Kept w w'):VB w' p z:=by
 obtain ⟨s,o,m,c,r,hz,hm⟩:=h
 exact ⟨s,o,m,c,r.kept k,hz.kept k,hm⟩
theorem VB.put {w:World} {p:Nat} {s0:Bool} {o0:Option Addr} {k0 c0:Nat} (r:RowL 51 w p [.bool s0,.slice o0 k0 c0]) {s:Bool} {o:Option Addr} {k c:Nat} {z:Int} (hz:D.NIs w s (.slice o k c) z) (hk:k≤200):VB ((w.setCell ⟨p,0,none⟩ (.bool s)).setCell ⟨p,1,none⟩ (.slice o k c)) p z :=
 ⟨s,o,k,c,(r.set 0 (.bool s)).set 1 (.slice o k c),nis_far r hz (((KX.refl w).setCell (T:=fun q => q = p) (p:=⟨p,0,none⟩) (.inl rfl) _).setCell (p:=⟨p,1,none⟩) (.inl rfl) _),hk⟩
theorem NO.getK {A:Nat→Prop} {P K n:Nat} {zs:Nat→Int} {w:World} {g c j:Nat} (h:NO A P K zs w (.slice (some ⟨g,0,none⟩) n c) n) (hj:j < n):∃ s ao k cap,(∀ V,Kept w V→V.cell? ⟨g,j * 2,none⟩ = some (.bool s)∧V.cell? ⟨g,j * 2 + 1,none⟩ = some (.slice ao k cap))∧DX (fun q => A q ∨ q = g) K w s (.slice ao k cap) (zs j)∧k≤K:=by
 obtain ⟨s,ao,k,cap,h1,h2,h3,h4⟩:=h.get hj
 exact ⟨s,ao,k,cap,fun V kv => ⟨(Below.cell kv (p:=⟨g,j * 2,none⟩) h.lt.2).trans h1,(Below.cell kv (p:=⟨g,j * 2 + 1,none⟩) h.lt.2).trans h2⟩,h3,h4⟩
theorem remF_go {n:Nat} {M:Nat→Nat→Int} {b:Nat→Int} {ps:List (Nat × Nat)} {X:Nat→Int} (h:Fits n M ps) {k t j:Nat} (hj:j < ps.length) (e:j = k + 1 + t) (hk:k < ps.length):remF M b n ps X k t - mF M (ps.take k) ps[k].1 ps[j].2 * X ps[j].2 = remF M b n ps X k (t + 1):=by
 subst e
 rw [remF_step hj,mF_left (row_at h.rows hk),List.getD_eq_getElem?_getD,List.getElem?_eq_getElem hk]
 rfl
theorem box_kx {w:World} {p:Nat} (a b:Value):KX (fun q => q = p) w ((w.setCell ⟨p,0,none⟩ a).setCell ⟨p,1,none⟩ b):=((KX.refl w).setCell (T:=fun q => q = p) (p:=⟨p,0,none⟩) (.inl rfl) a).setCell (p:=⟨p,1,none⟩) (.inl rfl) b
set_option maxRecDepth 100000 in
set_option maxHeartbeats 80000000 in
theorem sld_tail2 {lo bo oo:Option Addr} {n lc bc oc lm pX:Nat} {M:Nat→Nat→Int} {b:Nat→Int} {ps:List (Nat × Nat)} {w W0 w3:World} {u3 u4 u5 u7 u9 u10 u11 u13 u14 u15 u16 u17 u18 u19 u20 u21 u22 u23 u24 u25 u26 u27 u28 u29 u30 u31 u32 u33 u34 u35 u36 u37 u38 u39 u40 u41 u42 u43 u44 u45 u46 u47 u48 u49 u50 u51 u52 u53 u54 u55 u56 u57 u58 u59 u60 u61 u62 u63 u64 u65 u66 u67 u68 u69 u70 u71 u72 u73 u74 u75 u76 u77 u78 u79 u80 u81 u82 u83 u84 u85 u86 u87 u88 u89 u90 u91 u92 u93 u94 u95 u96 u97 u98 u99 u100 u101 u102 u103 u104 u105 u106 u107 u108 u109 u110 u111 u112 u113 u114 u115 u116 u117 u118 u119 u120 u121 u122 u123 u124 u125 u126 u127 u128 u129 u130 u131 u132 u133 u134 u135 u136 u137 u138 u139 u140 u141 u142 u143 u144 u145 u146 u147 u148 u149 u150 u151 u152 u153 u154 u155 u156 u157 u158 u159 u160 u161 u162 u163 u164 u165 u166 u167 u168 u169 u170 u171 u172 u173 u174 u175 u176 u177 u178 u179 u180 u181 u182 u183 u184 u185 u186 u187 u188 u189 u190 u191 u192 u193 u194 u195 u196 u197 u198 u199 u200 u201 u202 u203 u204 u205 u206 u207 u208 u209 u210 u211 u212 u213 u214 u215 u216 u217 u218 u219 u220 u221 u222 u223 u224 u225 u226 u227 u228:Value} (hn:n≤48)
  (HW:Hid (∀ k,k≤n→sdW n lm M b ps k = false)) (HF:Hid (Fits n M ps∧ps.length = n∧facS n lm M = (ps,0)∧lm≤32))
  (HB:Hid (Kept w W0∧RowL 94 W0 pX [.slice none 0 0,.bool false,.slice none 0 0]∧w.heap.size≤pX))
  (H3:Hid (Kept W0 w3∧SgR (fun q => w.heap.size≤q) n M ps w3 (.slice lo n lc)∧RdX (fun _ => False) 144 (fun j => sdF n M b ps (ps.getD j (0,0)).1) w3 (.slice oo n oc) n)) :
  (tailF Tryz.f39 26).wp Tryz.prog (bodyPost Tryz.prog Tryz.f39 (SldIs n lm M b ps w)) ⟨((.slice lo n lc) :: (.slice bo n bc) :: (.int .i64 (lm:Int)) :: u3 :: u4 :: u5 :: (.pointer (some ⟨pX,0,none⟩)) :: u7 :: (.int .i64 (n:Int)) :: u9 :: u10 :: u11 :: (.slice oo n oc) :: u13 :: u14 :: u15 :: u16 :: u17 :: u18 :: u19 :: u20 :: u21 :: u22 :: u23 :: u24 :: u25 :: u26 :: u27 :: u28 :: u29 :: u30 :: u31 :: u32 :: u33 :: u34 :: u35 :: u36 :: u37 :: u38 :: u39 :: u40 :: u41 :: u42 :: u43 :: u44 :: u45 :: u46 :: u47 :: u48 :: u49 :: u50 :: u51 :: u52 :: u53 :: u54 :: u55 :: u56 :: u57 :: u58 :: u59 :: u60 :: u61 :: u62 :: u63 :: u64 :: u65 :: u66 :: u67 :: u68 :: u69 :: u70 :: u71 :: u72 :: u73 :: u74 :: u75 :: u76 :: u77 :: u78 :: u79 :: u80 :: u81 :: u82 :: u83 :: u84 :: u85 :: u86 :: u87 :: u88 :: u89 :: u90 :: u91 :: u92 :: u93 :: u94 :: u95 :: u96 :: u97 :: u98 :: u99 :: u100 :: u101 :: u102 :: u103 :: u104 :: u105 :: u106 :: u107 :: u108 :: u109 :: u110 :: u111 :: u112 :: u113 :: u114 :: u115 :: u116 :: u117 :: u118 :: u119 :: u120 :: u121 :: u122 :: u123 :: u124 :: u125 :: u126 :: u127 :: u128 :: u129 :: u130 :: u131 :: u132 :: u133 :: u134 :: u135 :: u136 :: u137 :: u138 :: u139 :: u140 :: u141 :: u142 :: u143 :: u144 :: u145 :: u146 :: u147 :: u148 :: u149 :: u150 :: u151 :: u152 :: u153 :: u154 :: u155 :: u156 :: u157 :: u158 :: u159 :: u160 :: u161 :: u162 :: u163 :: u164 :: u165 :: u166 :: u167 :: u168 :: u169 :: u170 :: u171 :: u172 :: u173 :: u174 :: u175 :: u176 :: u177 :: u178 :: u179 :: u180 :: u181 :: u182 :: u183 :: u184 :: u185 :: u186 :: u187 :: u188 :: u189 :: u190 :: u191 :: u192 :: u193 :: u194 :: u195 :: u196 :: u197 :: u198 :: u199 :: u200 :: u201 :: u202 :: u203 :: u204 :: u205 :: u206 :: u207 :: u208 :: u209 :: u210 :: u211 :: u212 :: u213 :: u214 :: u215 :: u216 :: u217 :: u218 :: u219 :: u220 :: u221 :: u222 :: u223 :: u224 :: u225 :: u226 :: u227 :: u228 :: []).toArray,[]⟩ w3:=by
 obtain ⟨Q,hQ⟩:∃ Q,Q = SldIs n lm M b ps w:=⟨_,rfl⟩
 rw [← hQ]
 have HQ:=hid hQ
 clear hQ
 have hla:=last14_any (fun q => q = pX) lo n lc M ps w3 ((H3.out.2.1).mono fun q hq => by have:=HB.out.2.2; omega) (fun q hq => by
  have h1:=HB.out.2.1.lt
  have h2:=H3.out.1.size
  omega) HF.out.2.1 HF.out.1 hn
 conv =>
  arg 2
  whnf
 --%A
 go_wp2_with fail
 refine hla.mono ?_
 rintro e w4 ⟨hk4,s,o,k,c,rfl,hd⟩
 have rd:=RowL.alloc 51 w4 [.bool s,.slice o k c]
 have kd:=(Kept.refl w4).alloc (.cells #[.bool s,.slice o k c] 51)
 obtain ⟨pd,hpd⟩:∃ p,p = w4.heap.size:=⟨_,rfl⟩
 rw [← hpd] at rd
 have hdd:=(hd.add.kept kd)
 have HPD:=hid (show w4.heap.size≤pd∧W0.heap.size≤pd by
  have:=(H3.out.1.trans hk4).size
  omega)
 have HPX:=hid (show pX < w4.heap.size by
  have h1:=HB.out.2.1.lt
  have h2:=(H3.out.1.trans hk4).size
  omega)
 obtain ⟨W5,hW5⟩:∃ W,W = w4.alloc (.cells #[.bool s,.slice o k c] 51):=⟨_,rfl⟩
 rw [← hW5] at kd hdd
 have rd:RowL 51 W5 pd [.bool s,.slice o k c]:=by rw [hW5]; exact rd
 obtain ⟨W6,hm,k6,hsz,hno⟩:=make_ns (A:=fun q => q = pd ∨ q = pX) (K:=200) (n:=n) (by omega) W5 (fun q hq => by
  have h1:=rd.lt
  have h2:=kd.size
  have h3:=HPX.out
  omega)
 obtain ⟨gx,hgx⟩:∃ p,p = W5.heap.size:=⟨_,rfl⟩
 rw [← hgx] at hm hno
 have HS:=hid (And.intro (hk4.trans (kd.trans k6)) (show SX W0.heap.size pX W6 pd gx n n (xF ps (bkA n M b ps) ps.length) (lastP M ps) from
  ⟨⟨s,o,k,c,rd.kept k6,(hdd.kept k6).mono (fun q hq => by
   have h1:=HPD.out
   have h2:=kd.size
   rcases hq with hq | hq | hq
   ·
    exact .inr (by omega)
   ·
    exact .inr (by omega)
   ·
    exact .inl hq) (by decide)⟩,by rw [xF_end]; exact hno.low (by have h1:=(H3.out.1.trans (hk4.trans kd)).size; omega),HPD.out.2⟩))
 have HGX:=hid (show w3.heap.size≤gx by have h1:=(hk4.trans kd).size; omega)
 have HP3:=hid (show pX < w3.heap.size by
  have h1:=HB.out.2.1.lt
  have h2:=H3.out.1.size
  omega)
 clear hla hk4 hd rd kd hdd k6 hsz hno
 rw [hW5] at hm
 clear hgx
 have HBd:=hid (show (∀ i,i < n→(sdF n M b ps i).natAbs < W32)∧Ba.IsSol n M b ps (bkA n M b ps) from ⟨fun i hi => by
  have:=sdW_num (HW.out n (Nat.le_refl n)) HF.out.2.2.2 hi
  rwa [List.take_of_length_le (by have:=HF.out.2.1; omega)] at this,bkA_sol HF.out.1 HF.out.2.1⟩)
 --%B
 go_wp2_with fail
 rw [← hpd]
 clear hpd hW5 hm
 rename_i K40 hR40
 have HR40:=hid hR40
 clear hR40
 go_loopw [21] (fun v21 wr => ∃ k:Nat,k≤n∧v21 = .int .i64 ((k:Int) - 1)∧Hid (Kept w3 wr∧SX W0.heap.size pX wr pd gx n n (xF ps (bkA n M b ps) k) (lastP M ps)∧∀ j (hj:j < ps.length),k≤j→wideZ lm (bkA n M b ps ps[j].2) = false)) (fun v21 _ => (intOf v21 + 1).toNat)
 case atStart => exact ⟨n,Nat.le_refl n,rfl,HS.out.1,by have:=HS.out.2; rwa [HF.out.2.1] at this,fun j hj h => by have:=HF.out.2.1; omega⟩
 case round =>
  clear HS
  obtain ⟨k,hkn,rfl,H⟩:=hrel
  generalize wr = w7 at H ⊢
  by_cases hk0:k = 0
  ·
   subst hk0
   have e1:¬ (0:Int)≤((0:Nat):Int) - 1:=by omega
   --%C
   go_wp2_with fail
   refine HR40.out _ _ ?_
   rw [HQ.out]
   refine sld_tail3 hn (hid ⟨HW.out,fun j hj => ?_⟩) HB (hid ⟨H3.out.1.trans H.out.1,H.out.2.1.congr fun j hj => xF_all HF.out.1 HF.out.2.1 hj⟩)
   obtain ⟨i,hi,e⟩:=List.mem_iff_getElem.1 (all_cols HF.out.1 HF.out.2.1 hj)
   rw [List.length_map] at hi
   rw [List.getElem_map] at e
   rw [← e]
   exact H.out.2.2 i hi (Nat.zero_le _)
  ·
   obtain ⟨kk,rfl⟩:∃ kk,k = kk + 1:=⟨k - 1,by omega⟩
   have e0:(((kk + 1:Nat):Int) - 1) = (kk:Int):=by omega
   rw [e0]
   have hkp:kk < ps.length:=by have:=HF.out.2.1; omega
   have hkI:(kk:Int) < (n:Int):=by omega
   have hk0':(0:Int)≤(kk:Int):=by omega
   obtain ⟨b0,rfl,hall⟩:=H3.out.2.1.all (by omega)
   obtain ⟨so,sc,hc,hm⟩:=hall kk hkp
   have hlt:=HF.out.1.lt _ (List.getElem_mem hkp)
   obtain ⟨r,hr⟩:∃ x,x = ps[kk].1:=⟨_,rfl⟩
   obtain ⟨cl,hcl⟩:∃ x,x = ps[kk].2:=⟨_,rfl⟩
   rw [← hr,← hcl] at hc hlt
   have hr0:(0:Int)≤(r:Int):=by omega
   have hc0:(0:Int)≤(cl:Int):=by omega
   have hr1:(r:Int) < (n:Int):=by omega
   have hc1:(cl:Int) < (n:Int):=by omega
   have y:=hc w7 (KX.of H.out.1)
   have y0:=y.1
   have y1:=y.2.1
   have y2:=y.2.2
   have HA:=hid (And.intro hall (And.intro hm (And.intro hr (And.intro hcl hlt))))
   have rS:=RowL.alloc 47 w7 [.int .i64 (r:Int),.int .i64 (cl:Int),.slice so n sc]
   have kS:=(Kept.refl w7).alloc (.cells #[.int .i64 (r:Int),.int .i64 (cl:Int),.slice so n sc] 47)
   obtain ⟨pS,hpS⟩:∃ p,p = w7.heap.size:=⟨_,rfl⟩
   rw [← hpS] at rS
   have HPS:=hid (show w7.heap.size≤pS by rw [hpS]; exact Nat.le_refl _)
   clear hall hm hc y e0 hr hcl hlt
   --%D
   go_upto_region 32 with fail
   rw [← hpS]
   clear hpS y0 y1 y2
   change RowL 47 (w7.alloc (.cells #[.int .i64 (r:Int),.int .i64 (cl:Int),.slice so n sc] 47)) pS _ at rS
   generalize w7.alloc (.cells #[.int .i64 (r:Int),.int .i64 (cl:Int),.slice so n sc] 47) = w8 at rS kS ⊢
   obtain ⟨sd,od,kd,cd,rd,hdd⟩:=H.out.2.1.d
   have hkd:kd≤200:=by
    obtain ⟨_,_,_,_,e,hk,_⟩:=hdd
    cases e
    exact hk
   obtain ⟨ob,oof,s2,o2,k2,c2,rfl,_,_,hoc,hod,hok⟩:=H3.out.2.2.at (show kk < n by omega)
   have sS:=hid (fun (V:World) (K:Kept w8 V) => show (fun w':World => w'.cell? ⟨pd,0,none⟩ = some (.bool sd)∧w'.cell? ⟨pd,1,none⟩ = some (.slice od kd cd)∧w'.cell? ⟨ob,oof + kk * 2,none⟩ = some (.bool s2)∧w'.cell? ⟨ob,oof + kk * 2 + 1,none⟩ = some (.slice o2 k2 c2)) V from ⟨(rd.kept (kS.trans K)).cell 0 _ rfl,(rd.kept (kS.trans K)).cell 1 _ rfl,(hoc V (KX.of (H.out.1.trans (kS.trans K)))).1,(hoc V (KX.of (H.out.1.trans (kS.trans K)))).2⟩)
   have HX:=hid (And.intro hdd.1 (And.intro (hod.1.kept H.out.1) kS))
   have HV:=hid (show remF M b n ps (bkA n M b ps) kk 0 = lastP M ps * sdF n M b ps (ps.getD kk (0,0)).1∧(remF M b n ps (bkA n M b ps) kk 0).natAbs < 65536 ^ 200 from ⟨remF_0,remF_lim HF.out.1 HF.out.2.1 hn HF.out.2.2.2 HF.out.2.2.1 HBd.out.1 hkp (fun j hj h1 h2 => by omega)⟩)
   have HS8:=hid (And.intro kS rS)
   clear rd hdd hoc hod rS kS
   go_cut [23] (fun v23 wc => ∃ pv:Nat,v23 = .pointer (some ⟨pv,0,none⟩)∧Hid (Kept w8 wc∧VB wc pv (remF M b n ps (bkA n M b ps) kk 0)∧w8.heap.size≤pv))
   case first =>
    have KT:Kept w8 w8.drew:=(Kept.refl _).drew
    refine region_z 7 (S:=fun w' => w'.cell? ⟨pd,0,none⟩ = some (.bool sd)∧w'.cell? ⟨pd,1,none⟩ = some (.slice od kd cd)∧w'.cell? ⟨ob,oof + kk * 2,none⟩ = some (.bool s2)∧w'.cell? ⟨ob,oof + kk * 2 + 1,none⟩ = some (.slice o2 k2 c2)) (by kernel_rfl) (sS.out _ KT) (fun hHeld => ?_)
    generalize hwd:w8.drew = V0 at KT hHeld ⊢
    clear hwd
    have G0:=hid (And.intro KT True.intro)
    clear KT
    refine zk 0 hHeld ?_
    refine zk 1 hHeld ?_
    refine zk 2 hHeld ?_
    refine zk 3 hHeld ?_
    refine zk 4 hHeld ?_
    refine anyZ_ready (rs:=[5,6]) (by kernel_rfl) (by simp) ?_
    refine AllZ.cons rfl (fun K9 hK => ?_) (AllZ.cons rfl (fun K9 hK => ?_) AllZ.nil)
    ·
     refine ite_want (by kernel_rfl) ?_
     go_simp
     refine (D.Times_any sd s2 od o2 kd k2 cd c2 _ _ V0 (HX.out.1.kept (HX.out.2.2.trans (G0.out.1))) (HX.out.2.1.kept (HX.out.2.2.trans (G0.out.1))) (by omega) (by omega)).mono ?_
     rintro e V1 ⟨hk1,s5,o5,k5,c5,rfl,hz1,hl5⟩
     have H1:=hid (And.intro ((G0.out.1).trans hk1) hz1)
     refine hK.out _ _ (sS.out _ H1.out.1) (fun hHeld => ?_)
     have T1:=hid hk1
     clear hK hk1 hz1
     refine zr 6 fun K9 hK => ?_
     have hr2:=RowL.alloc 51 V1 [.bool false,.slice none 0 0]
     have hk2:=(Kept.refl V1).alloc (.cells #[.bool false,.slice none 0 0] 51)
     go_simp
     obtain ⟨pV,hpV⟩:∃ p,p = V1.heap.size:=⟨_,rfl⟩
     rw [← hpV] at hr2 ⊢
     have HP:=hid (show w8.heap.size≤pV by rw [hpV]; exact (H1.out.1).size)
     clear hpV
     change RowL 51 (V1.alloc (.cells #[.bool false,.slice none 0 0] 51)) pV _ at hr2
     generalize V1.alloc (.cells #[.bool false,.slice none 0 0] 51) = V2 at hr2 hk2 ⊢
     have H2:=hid (And.intro ((H1.out.1).trans hk2) (show RowL 51 V2 pV [.bool false,.slice none 0 0] from hr2))
     refine hK.out _ _ (sS.out _ H2.out.1) (fun hHeld => ?_)
     have T2:=hid hk2
     clear hK hk2 hr2
     have hrS:=H2.out.2
     have hzS:=((H1.out.2).kept T2.out)
     have x0:=hrS.cell 0 _ rfl
     have x1:=hrS.cell 1 _ rfl
     have f0:=hrS.fz 0
     have f1:=hrS.fz 1
     have HE:=hid (And.intro (KX.kept (H2.out.1) (box_kx (w:=V2) (p:=pV) (.bool s5) (.slice o5 k5 c5)) fun q hq => by rw [hq]; exact HP.out) (And.intro (VB.put (z:=remF M b n ps (bkA n M b ps) kk 0) hrS (by rw [HV.out.1]; exact hzS) (nis_len (z:=remF M b n ps (bkA n M b ps) kk 0) (by rw [HV.out.1]; exact hzS) HV.out.2)) HP.out))
     clear hrS hzS
     refine zl fun K9 hK => ?_
     go_simp
     refine hK.out _ _ ?_
     clear hK x0 x1 f0 f1 hHeld
     refine zd ?_
     go_wp2_with fail
     go_meet
     case rel => exact ⟨pV,rfl,HE.out⟩
    ·
     refine ite_want (by kernel_rfl) ?_
     have hr1:=RowL.alloc 51 V0 [.bool false,.slice none 0 0]
     have hk1:=(Kept.refl V0).alloc (.cells #[.bool false,.slice none 0 0] 51)
     go_simp
     obtain ⟨pV,hpV⟩:∃ p,p = V0.heap.size:=⟨_,rfl⟩
     rw [← hpV] at hr1 ⊢
     have HP:=hid (show w8.heap.size≤pV by rw [hpV]; exact (G0.out.1).size)
     clear hpV
     change RowL 51 (V0.alloc (.cells #[.bool false,.slice none 0 0] 51)) pV _ at hr1
     generalize V0.alloc (.cells #[.bool false,.slice none 0 0] 51) = V1 at hr1 hk1 ⊢
     have H1:=hid (And.intro ((G0.out.1).trans hk1) (show RowL 51 V1 pV [.bool false,.slice none 0 0] from hr1))
     refine hK.out _ _ (sS.out _ H1.out.1) (fun hHeld => ?_)
     have T1:=hid hk1
     clear hK hk1 hr1
     refine zr 5 fun K9 hK => ?_
     go_simp
     refine (D.Times_any sd s2 od o2 kd k2 cd c2 _ _ V1 (HX.out.1.kept (HX.out.2.2.trans (H1.out.1))) (HX.out.2.1.kept (HX.out.2.2.trans (H1.out.1))) (by omega) (by omega)).mono ?_
     rintro e V2 ⟨hk2,s5,o5,k5,c5,rfl,hz2,hl5⟩
     have H2:=hid (And.intro ((H1.out.1).trans hk2) hz2)
     refine hK.out _ _ (sS.out _ H2.out.1) (fun hHeld => ?_)
     have T2:=hid hk2
     clear hK hk2 hz2
     have hrS:=((H1.out.2).kept T2.out)
     have hzS:=H2.out.2
     have x0:=hrS.cell 0 _ rfl
     have x1:=hrS.cell 1 _ rfl
     have f0:=hrS.fz 0
     have f1:=hrS.fz 1
     have HE:=hid (And.intro (KX.kept (H2.out.1) (box_kx (w:=V2) (p:=pV) (.bool s5) (.slice o5 k5 c5)) fun q hq => by rw [hq]; exact HP.out) (And.intro (VB.put (z:=remF M b n ps (bkA n M b ps) kk 0) hrS (by rw [HV.out.1]; exact hzS) (nis_len (z:=remF M b n ps (bkA n M b ps) kk 0) (by rw [HV.out.1]; exact hzS) HV.out.2)) HP.out))
     clear hrS hzS
     refine zl fun K9 hK => ?_
     go_simp
     refine hK.out _ _ ?_
     clear hK x0 x1 f0 f1 hHeld
     refine zd ?_
     go_wp2_with fail
     go_meet
     case rel => exact ⟨pV,rfl,HE.out⟩
   case rest =>
   obtain ⟨pv,rfl,H9⟩:=hcut
   generalize wc = w9 at H9 ⊢
   clear sS HX HV
   obtain ⟨mb,mo,ra,rc,rfl,_,hmc,hrow⟩:=HA.out.2.1.at HA.out.2.2.2.2.1
   obtain ⟨c1,off1,_,_,_,_,rfl,_⟩:=hrow.at HA.out.2.2.2.2.2
   have HM:=hid (And.intro hmc hrow)
   clear hmc hrow
   --%E
   go_wp2_with fail
   go_loopw [24] (fun v24 wr => ∃ j t:Nat,j≤n∧v24 = .int .i64 (j:Int)∧Hid (j = kk + 1 + t)∧Hid (Kept w8 wr∧VB wr pv (remF M b n ps (bkA n M b ps) kk t)∧w8.heap.size≤pv)) (fun v24 _ => n - (intOf v24).toNat)
   case atStart => exact ⟨kk + 1,0,by omega,by go_num,rfl,H9.out⟩
   case round =>
    clear H9
    obtain ⟨j,t,hjn,rfl,HJ,J⟩:=hrel
    generalize wr = wa at J ⊢
    by_cases hjt:j < n
    ·
     have hjj:(j:Int) < (n:Int):=by omega
     have hj0:(0:Int)≤(j:Int):=by omega
     have hjp:j < ps.length:=by have:=HF.out.2.1; omega
     obtain ⟨so',sc',hcj,_⟩:=HA.out.1 j hjp
     have hltj:=HF.out.1.lt _ (List.getElem_mem hjp)
     obtain ⟨cj,hcjd⟩:∃ x,x = ps[j].2:=⟨_,rfl⟩
     rw [← hcjd] at hcj hltj
     have hcj0:(0:Int)≤(cj:Int):=by omega
     have hcj1:(cj:Int) < (n:Int):=by omega
     obtain ⟨c1',off1',s3,o3,k3,cp3,e3,_,_,hcb,hd3,hk3⟩:=HM.out.2.at hltj.2
     injection e3 with e3
     injection e3 with e31 e32
     subst e31
     subst e32
     obtain ⟨s4,o4,k4,c4,hxc,hd4,hk4⟩:=H.out.2.1.x.getK hltj.2
     obtain ⟨sv,ov,kv,cv,rv,hzv,hkv⟩:=J.out.2.1
     have hx:xF ps (bkA n M b ps) (kk + 1) cj = bkA n M b ps cj:=by
      rw [hcjd]
      exact xF_in hjp (by have:=HJ.out; omega)
     rw [hx] at hd4
     have K3:=H.out.1.trans (HS8.out.1.trans J.out.1)
     have sS:=hid (fun (V:World) (K:Kept wa V) => show (fun w':World => w'.cell? ⟨pv,0,none⟩ = some (.bool sv)∧w'.cell? ⟨pv,1,none⟩ = some (.slice ov kv cv)∧w'.cell? ⟨pS,0,none⟩ = some (.int .i64 (r:Int))∧w'.cell? ⟨pS,1,none⟩ = some (.int .i64 (cl:Int))∧w'.cell? ⟨pS,2,none⟩ = some (.slice (some ⟨mb,mo,none⟩) n sc)∧w'.cell? ⟨mb,mo + r,none⟩ = some (.slice (some ⟨c1,off1,none⟩) n rc)∧w'.cell? ⟨b0,j * 3 + 1,none⟩ = some (.int .i64 (cj:Int))∧w'.cell? ⟨c1,off1 + cj * 2,none⟩ = some (.bool s3)∧w'.cell? ⟨c1,off1 + cj * 2 + 1,none⟩ = some (.slice o3 k3 cp3)∧w'.cell? ⟨gx,cj * 2,none⟩ = some (.bool s4)∧w'.cell? ⟨gx,cj * 2 + 1,none⟩ = some (.slice o4 k4 c4)) V from ⟨(rv.kept K).cell 0 _ rfl,(rv.kept K).cell 1 _ rfl,(HS8.out.2.kept (J.out.1.trans K)).cell 0 _ rfl,(HS8.out.2.kept (J.out.1.trans K)).cell 1 _ rfl,(HS8.out.2.kept (J.out.1.trans K)).cell 2 _ rfl,HM.out.1 V (KX.of (K3.trans K)),(hcj V (KX.of (K3.trans K))).2.1,(hcb V (KX.of (K3.trans K))).1,(hcb V (KX.of (K3.trans K))).2,(hxc V (HS8.out.1.trans (J.out.1.trans K))).1,(hxc V (HS8.out.1.trans (J.out.1.trans K))).2⟩)
     have HX:=hid (And.intro hzv (And.intro (hd3.1.kept K3) (hd4.1.kept (HS8.out.1.trans J.out.1))))
     have HV:=hid (show remF M b n ps (bkA n M b ps) kk t - mF M (ps.take kk) r cj * bkA n M b ps cj = remF M b n ps (bkA n M b ps) kk (t + 1)∧(remF M b n ps (bkA n M b ps) kk (t + 1)).natAbs < 65536 ^ 200 from ⟨by
      rw [hcjd,HA.out.2.2.1]
      exact remF_go HF.out.1 hjp HJ.out hkp,remF_lim HF.out.1 HF.out.2.1 hn HF.out.2.2.2 HF.out.2.2.1 HBd.out.1 hkp (fun i hi h1 h2 => not_wide_32 HF.out.2.2.2 (H.out.2.2 i hi (by omega)))⟩)
     have HRv:=hid rv
     clear hcj hltj hcb hd3 hxc hd4 hzv hx K3 hcjd rv
     --%F
     go_upto_region 36 with fail
     have KT:Kept wa wa.drew:=(Kept.refl _).drew
     refine region_z 24 (S:=fun w' => w'.cell? ⟨pv,0,none⟩ = some (.bool sv)∧w'.cell? ⟨pv,1,none⟩ = some (.slice ov kv cv)∧w'.cell? ⟨pS,0,none⟩ = some (.int .i64 (r:Int))∧w'.cell? ⟨pS,1,none⟩ = some (.int .i64 (cl:Int))∧w'.cell? ⟨pS,2,none⟩ = some (.slice (some ⟨mb,mo,none⟩) n sc)∧w'.cell? ⟨mb,mo + r,none⟩ = some (.slice (some ⟨c1,off1,none⟩) n rc)∧w'.cell? ⟨b0,j * 3 + 1,none⟩ = some (.int .i64 (cj:Int))∧w'.cell? ⟨c1,off1 + cj * 2,none⟩ = some (.bool s3)∧w'.cell? ⟨c1,off1 + cj * 2 + 1,none⟩ = some (.slice o3 k3 cp3)∧w'.cell? ⟨gx,cj * 2,none⟩ = some (.bool s4)∧w'.cell? ⟨gx,cj * 2 + 1,none⟩ = some (.slice o4 k4 c4)) (by kernel_rfl) (sS.out _ KT) (fun hHeld => ?_)
     generalize hwd:wa.drew = V0 at KT hHeld ⊢
     clear hwd
     have G0:=hid KT
     clear KT
     refine zk 0 hHeld ?_
     refine zk 1 hHeld ?_
     refine zk 2 hHeld ?_
     refine zk 3 hHeld ?_
     refine zk 4 hHeld ?_
     refine zk 5 hHeld ?_
     refine zk 6 hHeld ?_
     refine zk 7 hHeld ?_
     refine zk 8 hHeld ?_
     refine zk 9 hHeld ?_
     refine zk 10 hHeld ?_
     refine zk 11 hHeld ?_
     refine zk 12 hHeld ?_
     refine zk 13 hHeld ?_
     refine zk 14 hHeld ?_
     refine zk 15 hHeld ?_
     refine zk 16 hHeld ?_
     refine zk 17 hHeld ?_
     refine zk 18 hHeld ?_
     refine zk 19 hHeld ?_
     refine zk 20 hHeld ?_
     refine zk 21 hHeld ?_
     refine zr 22 fun K9 hK => ?_
     go_simp
     refine (D.Times_any s3 s4 o3 o4 k3 k4 cp3 c4 _ _ V0 (HX.out.2.1.kept G0.out) (HX.out.2.2.kept G0.out) (by omega) (by omega)).mono ?_
     rintro e V1 ⟨hk1,s5,o5,k5,c5,rfl,hz1,hl5⟩
     have H1:=hid (And.intro (G0.out.trans hk1) hz1)
     refine hK.out _ _ (sS.out _ H1.out.1) (fun hHeld => ?_)
     clear hK hk1 hz1
     refine zr 23 fun K9 hK => ?_
     go_simp
     refine (D.Less_any sv s5 ov o5 kv k5 cv c5 _ _ V1 (HX.out.1.kept H1.out.1) H1.out.2 (by omega) (by omega)).mono ?_
     rintro e V2 ⟨hk2,s6,o6,k6,c6,rfl,hz2,hl6⟩
     rw [HV.out.1] at hz2
     have H2:=hid (And.intro (H1.out.1.trans hk2) hz2)
     refine hK.out _ _ (sS.out _ H2.out.1) (fun hHeld => ?_)
     clear hK hk2 hz2
     have rv:=HRv.out.kept H2.out.1
     have x0:=rv.cell 0 _ rfl
     have x1:=rv.cell 1 _ rfl
     have f0:=rv.fz 0
     have f1:=rv.fz 1
     have HE:=hid (And.intro (KX.kept (J.out.1.trans H2.out.1) (box_kx (w:=V2) (p:=pv) (.bool s6) (.slice o6 k6 c6)) fun q hq => by rw [hq]; exact J.out.2.2) (And.intro (VB.put rv H2.out.2 (nis_len H2.out.2 HV.out.2)) J.out.2.2))
     clear rv
     refine zl fun K9 hK => ?_
     go_simp
     refine hK.out _ _ ?_
     clear hK x0 x1 f0 f1 hHeld
     refine zd ?_
     --%G
     go_wp2_with fail
     go_roundw
     case rel => exact ⟨j + 1,t + 1,by omega,by go_num,by have:=HJ.out; show j + 1 = kk + 1 + (t + 1); omega,HE.out⟩
     case measure => show n - ((j:Int) + 1).toNat < n - (j:Int).toNat; omega
    ·
     have hjj:¬ (j:Int) < (n:Int):=by omega
     obtain ⟨sv,ov,kv,cv,rv,hzv,hkv⟩:=J.out.2.1
     obtain ⟨c1',off1',s3,o3,k3,cp3,e3,_,_,hcb,hd3,hk3⟩:=HM.out.2.at HA.out.2.2.2.2.2
     injection e3 with e3
     injection e3 with e31 e32
     subst e31
     subst e32
     have K3:=H.out.1.trans (HS8.out.1.trans J.out.1)
     have hpg1:¬ pS = gx:=fun e => by
      have h1:=H.out.2.1.x.lt.2
      have h2:=HPS.out
      omega
     have hpg2:¬ pv = gx:=fun e => by
      have h1:=H.out.2.1.x.lt.2
      have h2:=HS8.out.1.size
      have h3:=J.out.2.2
      omega
     have hkx3:∀ V,KX (fun q => q = gx) wa V→KX (fun q => w.heap.size≤q) w3 V:=fun V K => (KX.of K3).trans (K.mono fun q hq => by
      have h1:=HGX.out
      have h2:=(HB.out.1.trans H3.out.1).size
      rw [hq]
      omega)
     have sS:=hid (fun (V:World) (K:KX (fun q => q = gx) wa V) => show (fun w':World => w'.cell? ⟨pv,0,none⟩ = some (.bool sv)∧w'.cell? ⟨pv,1,none⟩ = some (.slice ov kv cv)∧w'.cell? ⟨pS,0,none⟩ = some (.int .i64 (r:Int))∧w'.cell? ⟨pS,1,none⟩ = some (.int .i64 (cl:Int))∧w'.cell? ⟨pS,2,none⟩ = some (.slice (some ⟨mb,mo,none⟩) n sc)∧w'.cell? ⟨mb,mo + r,none⟩ = some (.slice (some ⟨c1,off1,none⟩) n rc)∧w'.cell? ⟨c1,off1 + cl * 2,none⟩ = some (.bool s3)∧w'.cell? ⟨c1,off1 + cl * 2 + 1,none⟩ = some (.slice o3 k3 cp3)) V from ⟨(row_kx rv K hpg2).cell 0 _ rfl,(row_kx rv K hpg2).cell 1 _ rfl,(row_kx (HS8.out.2.kept J.out.1) K hpg1).cell 0 _ rfl,(row_kx (HS8.out.2.kept J.out.1) K hpg1).cell 1 _ rfl,(row_kx (HS8.out.2.kept J.out.1) K hpg1).cell 2 _ rfl,HM.out.1 V (hkx3 V K),(hcb V (hkx3 V K)).1,(hcb V (hkx3 V K)).2⟩)
     have HX:=hid (And.intro hzv (hd3.1.kept K3))
     have hpn:mF M (ps.take kk) r cl = stg M (ps.take kk) ps[kk].1 ps[kk].2:=by
      rw [HA.out.2.2.1,HA.out.2.2.2.1,mF_left (row_at HF.out.1.rows hkp)]
     have HV:=hid (show mF M (ps.take kk) r cl ≠ 0∧Int.tdiv (remF M b n ps (bkA n M b ps) kk t) (mF M (ps.take kk) r cl) = bkA n M b ps ps[kk].2 from ⟨by rw [hpn]; exact piv_ne HF.out.1 hkp,by rw [hpn]; exact remF_end HF.out.1 HBd.out.2 hkp (by have:=HF.out.2.1; have:=HJ.out; omega)⟩)
     clear hcb hd3 hzv hpn K3 rv hpg1 hpg2 hkx3
     --%H
     go_upto_region 37 with fail
     go_cut [] (fun wc => Hid (Kept w3 wc∧SX W0.heap.size pX wc pd gx n n (xF ps (bkA n M b ps) kk) (lastP M ps)∧RowL 47 wc pS [.int .i64 (r:Int),.int .i64 (cl:Int),.slice (some ⟨mb,mo,none⟩) n sc]))
     case first =>
      have KT:Kept wa wa.drew:=(Kept.refl _).drew
      refine region_z 19 (S:=fun w' => w'.cell? ⟨pv,0,none⟩ = some (.bool sv)∧w'.cell? ⟨pv,1,none⟩ = some (.slice ov kv cv)∧w'.cell? ⟨pS,0,none⟩ = some (.int .i64 (r:Int))∧w'.cell? ⟨pS,1,none⟩ = some (.int .i64 (cl:Int))∧w'.cell? ⟨pS,2,none⟩ = some (.slice (some ⟨mb,mo,none⟩) n sc)∧w'.cell? ⟨mb,mo + r,none⟩ = some (.slice (some ⟨c1,off1,none⟩) n rc)∧w'.cell? ⟨c1,off1 + cl * 2,none⟩ = some (.bool s3)∧w'.cell? ⟨c1,off1 + cl * 2 + 1,none⟩ = some (.slice o3 k3 cp3)) (by kernel_rfl) (sS.out _ (KX.of KT)) (fun hHeld => ?_)
      generalize hwd:wa.drew = V0 at KT hHeld ⊢
      clear hwd
      have G0:=hid KT
      clear KT
      refine zk 0 hHeld ?_
      refine zk 1 hHeld ?_
      refine zk 2 hHeld ?_
      refine zk 3 hHeld ?_
      refine zk 4 hHeld ?_
      refine zk 5 hHeld ?_
      refine zk 6 hHeld ?_
      refine zk 7 hHeld ?_
      refine zk 8 hHeld ?_
      refine zk 9 hHeld ?_
      refine zk 10 hHeld ?_
      refine zk 11 hHeld ?_
      refine zk 12 hHeld ?_
      refine zk 13 hHeld ?_
      refine zr 14 fun K9 hK => ?_
      go_simp
      refine (D.Divide_new sv s3 ov o3 kv k3 cv cp3 _ _ V0 (HX.out.1.kept G0.out) (HX.out.2.kept G0.out) (by omega) (by omega) HV.out.1).mono ?_
      rintro e V1 ⟨hk1,s5,o5,k5,c5,t5,o6,k6,c6,rfl,hz1,hz2,hl5,hl6,hnw⟩
      rw [HV.out.2] at hz1
      have hS0:=H.out.2.1.kept (HS8.out.1.trans (J.out.1.trans G0.out))
      have hdn:=dx_new (A:=fun q => (q = pd ∨ q = pX) ∨ q = gx) (K:=200) hz1 (by omega) hnw (fun q hq => by
       have hq:(q = pd ∨ q = pX) ∨ q = gx:=hq
       have h1:=hS0.lt.1
       have h2:=hS0.x.lt.2
       have h3:=HP3.out
       have h4:=(H.out.1.trans (HS8.out.1.trans (J.out.1.trans G0.out))).size
       omega)
      have hS1:=hS0.kept hk1
      have hx1:=hS1.setx HA.out.2.2.2.2.2 hdn
      have hup:∀ i,i < n→upd (xF ps (bkA n M b ps) (kk + 1)) cl (bkA n M b ps ps[kk].2) i = xF ps (bkA n M b ps) kk i:=fun i _ => by rw [HA.out.2.2.2.1,xF_upd hkp]
      have hgx2:w3.heap.size≤gx:=HGX.out
      have hpg:¬ pS = gx:=fun e => by
       have h1:=H.out.2.1.x.lt.2
       have h2:=HPS.out
       omega
      have hrS:=row_kx (HS8.out.2.kept (J.out.1.trans (G0.out.trans hk1))) (put_kx (w:=V1) (g:=gx) (j:=cl) (.bool s5) (.slice o5 k5 c5)) hpg
      have kx1:KX (fun q => q = gx) wa ((V1.setCell ⟨gx,cl * 2,none⟩ (.bool s5)).setCell ⟨gx,cl * 2 + 1,none⟩ (.slice o5 k5 c5)):=(KX.of (G0.out.trans hk1)).trans (put_kx (w:=V1) (g:=gx) (j:=cl) (.bool s5) (.slice o5 k5 c5))
      have HSS:=hid (And.intro (sS.out V1 (KX.of (G0.out.trans hk1))) (sS.out _ kx1))
      have HE:=hid (And.intro (((H.out.1.trans (HS8.out.1.trans (J.out.1.trans (G0.out.trans hk1)))).setCell (p:=⟨gx,cl * 2,none⟩) hgx2 (.bool s5)).setCell (p:=⟨gx,cl * 2 + 1,none⟩) hgx2 (.slice o5 k5 c5)) (And.intro (hx1.congr hup) hrS))
      refine hK.out _ _ HSS.out.1 (fun hHeld => ?_)
      obtain ⟨s9,o9,k9,c9,x0,x1,_,_⟩:=hS1.x.get HA.out.2.2.2.2.2
      have f0:=hS1.x.fz (cl * 2)
      have f1:=hS1.x.fz (cl * 2 + 1)
      clear hK hk1 hz1 hz2 hnw hdn hS0 hS1 hx1 hup hgx2 hrS hpg kx1
      refine zk 15 hHeld ?_
      refine zk 16 hHeld ?_
      refine zk 18 hHeld ?_
      refine anyZ_ready (rs:=[17,19]) (by kernel_rfl) (by simp) ?_
      refine AllZ.cons rfl (fun K9 hK => ?_) (AllZ.last rfl (fun K9 hK => ?_))
      ·
       refine ite_want (by kernel_rfl) ?_
       go_simp
       refine hK.out _ _ HSS.out.1 (fun hHeld => ?_)
       clear hK
       refine zl fun K9 hK => ?_
       go_simp
       refine hK.out _ _ ?_
       clear hK x0 x1 f0 f1 hHeld
       refine zd ?_
       go_wp2_with fail
       go_meet
       case rel => exact HE.out
      ·
       refine ite_want (by kernel_rfl) ?_
       go_simp
       refine hK.out _ _ ?_
       clear hK x0 x1 f0 f1 hHeld
       refine zr 17 fun K9 hK => ?_
       go_simp
       refine hK.out _ _ HSS.out.2 (fun hHeld => ?_)
       clear hK hHeld
       refine zd ?_
       go_wp2_with fail
       go_meet
       case rel => exact HE.out
     case rest =>
     have H1:=hid hcut
     clear hcut
     generalize wc = wb at H1 ⊢
     clear sS HX HV
     obtain ⟨s9,o9,k9,c9,x0,x1,hd9,hk9⟩:=H1.out.out.2.1.x.get HA.out.2.2.2.2.2
     have p0:=H1.out.out.2.2.cell 0 _ rfl
     have p1:=H1.out.out.2.2.cell 1 _ rfl
     have p2:=H1.out.out.2.2.cell 2 _ rfl
     have hval:xF ps (bkA n M b ps) kk cl = bkA n M b ps ps[kk].2:=by rw [HA.out.2.2.2.1]; exact xF_in hkp (Nat.le_refl _)
     rw [hval] at hd9
     have hwd:=nis_wide (lm:=lm) hd9.1
     have HWd:=hid hwd
     clear hd9 hval hwd
     --%I
     go_wp2_with fail
     refine (D.Length_any s9 o9 k9 c9 wb (by omega)).mono ?_
     rintro e wc ⟨hkc,rfl⟩
     have HKc:=hid hkc
     have rX:=HB.out.2.1.kept ((H3.out.1.trans H1.out.out.1).trans hkc)
     have z0:=rX.cell 0 _ rfl
     have z1:=rX.cell 1 _ rfl
     have z2:=rX.cell 2 _ rfl
     have g0:=rX.fz 0
     have g1:=rX.fz 1
     have g2:=rX.fz 2
     clear hkc x0 x1 p0 p1 p2
     by_cases hwi:lm < (k9 + 1) / 2
     ·
      have hwi':(lm:Int) < (((k9 + 1) / 2:Nat):Int):=by omega
      have HE:=hid (show SldIs n lm M b ps w exE (((wc.setCell ⟨pX,0,none⟩ (.slice none 0 0)).setCell ⟨pX,1,none⟩ (.bool false)).setCell ⟨pX,2,none⟩ (.slice none 0 0)) from
       ⟨KX.kept ((HB.out.1.trans (H3.out.1.trans H1.out.out.1)).trans HKc.out) ((((KX.refl wc).setCell (T:=fun q => q = pX) (p:=⟨pX,0,none⟩) (.inl rfl) _).setCell (p:=⟨pX,1,none⟩) (.inl rfl) _).setCell (p:=⟨pX,2,none⟩) (.inl rfl) _) (fun q hq => by rw [hq]; exact HB.out.2.2),.inl ⟨.inr ⟨ps[kk].2,by have:=HA.out.2.2.2.2.2; rw [HA.out.2.2.2.1] at this; exact this,by rw [HWd.out,decide_eq_true hwi]⟩,rfl⟩⟩)
      clear rX
      --%J
      go_wp2_with fail
      refine bodyPost_ret (v:=.tuple #[.agg #[.slice none 0 0,.bool false,.slice none 0 0],.int .i64 13]) (by simp [results,Tryz.results39,go_sem,z0,z1,z2]) rfl ?_
      rw [HQ.out]
      exact HE.out
     ·
      have hwi':¬ (lm:Int) < (((k9 + 1) / 2:Nat):Int):=by omega
      have HE:=hid (show Kept w3 wc∧SX W0.heap.size pX wc pd gx n n (xF ps (bkA n M b ps) kk) (lastP M ps)∧∀ j (hj:j < ps.length),kk≤j→wideZ lm (bkA n M b ps ps[j].2) = false from
       ⟨H1.out.out.1.trans HKc.out,H1.out.out.2.1.kept HKc.out,fun i hi hki => by
        by_cases e:i = kk
        ·
         subst e
         rw [HWd.out,decide_eq_false hwi]
        ·
         exact H.out.2.2 i hi (by omega)⟩)
      clear rX z0 z1 z2 g0 g1 g2
      --%K
      go_wp2_with fail
      go_roundw
      case rel => exact ⟨kk,by omega,by go_num,HE.out⟩
      case measure => show ((kk:Int) - 1 + 1).toNat < ((kk:Int) + 1).toNat; omega
end Bp
end Go.Proofs.YtdcgdpbgnijnpaaGreat
