/- shuntlaw14.BareissTells: from Order on. (mk_ft9.py) -/
import Derived.Test.YtdcgdpbgnijnpaaGreatGbb
import Derived.Test.YtdcgdpbgnijnpaaGreatGaw
import Derived.Test.YtdcgdpbgnijnpaaGreatGav
namespace Go.Proofs.YtdcgdpbgnijnpaaGreat
open Go.RowKit
open V (RowL RowL.alloc RowL.lt RowL.cell RowL.fz RowL.kept RowL.block RowL.set RowL.far)
open Sp (hid own_kept own_keptK own_row own_shape info_parts)
open X (zk zr zl zd region_z anyZ_ready AllZ AllZ.cons AllZ.nil)
open Ba (stg lastP pivs leftR leftC wideZ wideM nz facGo facS Fits leftR_iff leftC_iff stg_snoc stg_exact stg_col last_ne pivs_take ext)
open Sy
open Sp (own_cell)
open Bm (ZI ZI.kept ZI.of MxR ZsR mxr_at mxr_kept zsr_at zsr_kept mOk)
namespace Bp
structure PvS (w3 w5 wr:World) (n:Nat) (M:Nat→Nat→Int) (ps:List (Nat × Nat)) (ra ca po:Option Addr) (rc cc pc:Nat) (h:Nat→Nat) (k:Nat):Prop where
  kept:Kept w3 wr
  r:∃ xs,wr.ownsRow w3.heap.size 3 1 (.slice ra n rc) n xs∧∀ j (hj:j < ps.length),k≤j→xs[j]? = some (.int .i64 (ps[j].1:Int))
  c:wr.ownsRow w3.heap.size 3 1 (.slice ca n cc) n (colsV ps n)
  p:∃ xs,wr.ownsRow w5.heap.size 37 2 (.slice po n pc) n xs∧∀ j,j < n→∃ s ao m cap,xs[j * 2]? = some (.bool s)∧xs[j * 2 + 1]? = some (.slice ao m cap)∧(k≤j→ZN (h j) wr s (.slice ao m cap) (pivF M ps j)∧(0 < m→∀ b o p,ao = some ⟨b,o,p⟩→b < h (j + 1)))
  low:w5.heap.size≤h 0∧∀ j,j < n→h j≤h (j + 1)
theorem PvS.keep {w3 w5 wr wr':World} {n:Nat} {M:Nat→Nat→Int} {ps:List (Nat × Nat)} {ra ca po:Option Addr} {rc cc pc:Nat} {h:Nat→Nat} {k:Nat} (H:PvS w3 w5 wr n M ps ra ca po rc cc pc h k) (K:Kept wr wr'):PvS w3 w5 wr' n M ps ra ca po rc cc pc h k:=by
  obtain ⟨xr,hr,hrx⟩:=H.r
  obtain ⟨xp,hp,hpx⟩:=H.p
  exact ⟨H.kept.trans K,⟨xr,own_keptK hr K,hrx⟩,own_keptK H.c K,⟨xp,own_keptK hp K,fun j hj => by
    obtain ⟨s,a,m,cap,x1,x2,x3⟩:=hpx j hj
    exact ⟨s,a,m,cap,x1,x2,fun hk => ⟨ZN.kept (x3 hk).1 K,(x3 hk).2⟩⟩⟩,H.low⟩
theorem PvS.mono {w3 w5 wr:World} {n:Nat} {M:Nat→Nat→Int} {ps:List (Nat × Nat)} {ra ca po:Option Addr} {rc cc pc:Nat} {h:Nat→Nat} {k:Nat} (H:PvS w3 w5 wr n M ps ra ca po rc cc pc h k):∀ i j,i≤j→j≤n→h i≤h j:=by
  intro i j hij
  induction j with
  | zero => intro _; have : i = 0 := by omega
            subst this; exact Nat.le_refl _
  | succ j ih =>
    intro hj
    by_cases e:i = j + 1
    · subst e; exact Nat.le_refl _
    · exact Nat.le_trans (ih (by omega) (by omega)) (H.low.2 j (by omega))
def Ty (lo hi:Nat) (W:World):Nat→Prop:=fun q => lo≤q∧q < hi∧Lt W q
def Ow (lo hi:Nat) (W V:World):Prop:=KX (Ty lo hi W) W V∧∀ q m,Wr W q m→Wr V q m
theorem Ow.refl (lo hi:Nat) (W:World):Ow lo hi W W:=⟨KX.refl W,fun _ _ h => h⟩
theorem Ow.set {lo hi:Nat} {W V:World} (h:Ow lo hi W V) {p:Addr} (hp:Ty lo hi W p.block) (x:Value):Ow lo hi W (V.setCell p x):=⟨h.1.setCell (.inl hp) x,fun q m hq => (h.2 q m hq).set p x⟩
theorem Ow.own {lo hi:Nat} {W V:World} (h:Ow lo hi W V) {B:Nat} {t:TypeId} {sz n g cap:Nat} {xs:List Value} (ho:W.ownsRow B t sz (.slice (some ⟨g,0,none⟩) n cap) n xs) (ht:t ≠ 40):V.ownsRow B t sz (.slice (some ⟨g,0,none⟩) n cap) n xs:=own_kept ho fun b hb => h.1.block b (World.ownsRow.lt ho b hb).2 fun hx => by
  have e:g = b:=by simpa [Value.ownBlock] using hb
  subst e
  exact own_not ho ht hx.2.2
theorem own_apart {W:World} {B B':Nat} {t t':TypeId} {sz sz' n n' g g' cap cap':Nat} {xs xs':List Value} (h:W.ownsRow B t sz (.slice (some ⟨g,0,none⟩) n cap) n xs) (h':W.ownsRow B' t' sz' (.slice (some ⟨g',0,none⟩) n' cap') n' xs') (ht:t ≠ t'):g ≠ g':=fun e => by
  subst e
  obtain ⟨c,f,h1⟩:=own_block h
  obtain ⟨c',f',h2⟩:=own_block h'
  rw [h1] at h2
  injection h2 with h2
  injection h2 with _ e2
  exact ht e2
set_option maxRecDepth 100000 in
set_option maxHeartbeats 80000000 in
theorem tells_tail4 {ao bo lo:Option Addr} {n nb cap capb lc lm fb sc:Nat} {sa:Option Addr} {Ss:List StC} {M:Nat→Nat→Int} {Bs:List ZE} {ps:List (Nat × Nat)} {w w3:World} {B:Nat} {u3 u4 u5 u6 u7 u10 u12 u13 u14 u15 u16 u17 u18 u19 u20 u21 u22 u23 u24 u25 u26 u27 u28 u29 u30 u31 u32 u33 u34 u35 u36 u37 u38 u39 u40 u41 u42 u43 u44 u45 u46 u47 u48 u49 u50 u51 u52 u53 u54 u55 u56 u57 u58 u59 u60 u61 u62 u63 u64 u65 u66 u67 u68 u69 u70 u71 u72 u73 u74 u75 u76 u77 u78 u79 u80 u81 u82 u83 u84 u85 u86 u87 u88 u89 u90 u91 u92 u93 u94 u95 u96 u97 u98 u99 u100 u101 u102 u103 u104 u105 u106 u107 u108 u109 u110 u111 u112 u113 u114 u115 u116 u117 u118 u119 u120 u121 u122 u123 u124 u125 u126 u127 u128 u129 u130 u131 u132 u133 u134 u135 u136 u137 u138 u139 u140 u141 u142 u143 u144 u145 u146 u147 u148 u149 u150 u151 u152 u153 u154 u155 u156 u157 u158 u159 u160 u161 u162 u163 u164 u165 u166 u167 u168 u169 u170 u171 u172 u173 u174 u175 u176 u177 u178 u179 u180 u181 u182 u183 u184 u185 u186 u187 u188 u189 u190 u191 u192 u193 u194 u195 u196 u197 u198 u199 u200 u201 u202 u203 u204 u205 u206 u207 u208 u209 u210 u211 u212 u213 u214 u215 u216 u217 u218 u219 u220 u221 u222 u223 u224 u225 u226 u227 u228 u229 u230 u231 u232 u233 u234 u235 u236 u237 u238 u239 u240 u241 u242 u243 u244 u245 u246 u247 u248 u249 u250 u251 u252 u253 u254 u255 u256 u257 u258 u259 u260 u261 u262 u263 u264 u265 u266 u267 u268:Value} (hn:n≤48)
    (HF:Hid (Fits n M ps∧ps.length = n∧facS n lm M = (ps,0)∧lm≤32)) (HB:Hid (ZsR w bo Bs∧nb = Bs.length∧nb≤61))
    (H3:Hid (Kept w w3∧FacR B w3 fb n lm sa n sc Ss M ps∧SgR (fun _ => False) n M ps w3 (.slice lo n lc))) :
    (tailF Tryz.f3 26).wp Tryz.prog (bodyPost Tryz.prog Tryz.f3 fun e w' => Kept w w'∧e = .returned (.bool true)) ⟨((.slice ao n cap) :: (.slice bo nb capb) :: (.int .i64 (lm:Int)) :: u3 :: u4 :: u5 :: u6 :: u7 :: (.pointer (some ⟨fb,0,none⟩)) :: (.int .i64 (n:Int)) :: u10 :: (.slice lo n lc) :: u12 :: u13 :: u14 :: u15 :: u16 :: u17 :: u18 :: u19 :: u20 :: u21 :: u22 :: u23 :: u24 :: u25 :: u26 :: u27 :: u28 :: u29 :: u30 :: u31 :: u32 :: u33 :: u34 :: u35 :: u36 :: u37 :: u38 :: u39 :: u40 :: u41 :: u42 :: u43 :: u44 :: u45 :: u46 :: u47 :: u48 :: u49 :: u50 :: u51 :: u52 :: u53 :: u54 :: u55 :: u56 :: u57 :: u58 :: u59 :: u60 :: u61 :: u62 :: u63 :: u64 :: u65 :: u66 :: u67 :: u68 :: u69 :: u70 :: u71 :: u72 :: u73 :: u74 :: u75 :: u76 :: u77 :: u78 :: u79 :: u80 :: u81 :: u82 :: u83 :: u84 :: u85 :: u86 :: u87 :: u88 :: u89 :: u90 :: u91 :: u92 :: u93 :: u94 :: u95 :: u96 :: u97 :: u98 :: u99 :: u100 :: u101 :: u102 :: u103 :: u104 :: u105 :: u106 :: u107 :: u108 :: u109 :: u110 :: u111 :: u112 :: u113 :: u114 :: u115 :: u116 :: u117 :: u118 :: u119 :: u120 :: u121 :: u122 :: u123 :: u124 :: u125 :: u126 :: u127 :: u128 :: u129 :: u130 :: u131 :: u132 :: u133 :: u134 :: u135 :: u136 :: u137 :: u138 :: u139 :: u140 :: u141 :: u142 :: u143 :: u144 :: u145 :: u146 :: u147 :: u148 :: u149 :: u150 :: u151 :: u152 :: u153 :: u154 :: u155 :: u156 :: u157 :: u158 :: u159 :: u160 :: u161 :: u162 :: u163 :: u164 :: u165 :: u166 :: u167 :: u168 :: u169 :: u170 :: u171 :: u172 :: u173 :: u174 :: u175 :: u176 :: u177 :: u178 :: u179 :: u180 :: u181 :: u182 :: u183 :: u184 :: u185 :: u186 :: u187 :: u188 :: u189 :: u190 :: u191 :: u192 :: u193 :: u194 :: u195 :: u196 :: u197 :: u198 :: u199 :: u200 :: u201 :: u202 :: u203 :: u204 :: u205 :: u206 :: u207 :: u208 :: u209 :: u210 :: u211 :: u212 :: u213 :: u214 :: u215 :: u216 :: u217 :: u218 :: u219 :: u220 :: u221 :: u222 :: u223 :: u224 :: u225 :: u226 :: u227 :: u228 :: u229 :: u230 :: u231 :: u232 :: u233 :: u234 :: u235 :: u236 :: u237 :: u238 :: u239 :: u240 :: u241 :: u242 :: u243 :: u244 :: u245 :: u246 :: u247 :: u248 :: u249 :: u250 :: u251 :: u252 :: u253 :: u254 :: u255 :: u256 :: u257 :: u258 :: u259 :: u260 :: u261 :: u262 :: u263 :: u264 :: u265 :: u266 :: u267 :: u268 :: []).toArray,[]⟩ w3:=by
  conv =>
    arg 2
    whnf
  have hod:=order_any B fb n lm sa n sc Ss M ps w3 H3.out.2.1 hn
  --%A
  go_wp2_with fail
  refine hod.mono ?_
  rintro e w4 ⟨hk4,va,vb,rfl,hva,hvb,hap⟩
  obtain ⟨ra,rc,rfl⟩:=own_shape hva
  obtain ⟨ca,cc,rfl⟩:=own_shape hvb
  have hpv:=pivots_dis B fb n lm sa n sc Ss M ps w4 (H3.out.2.1.kept hk4) HF.out.1 hn
  have HO:=hid (And.intro hk4 (And.intro hva (And.intro hvb hap)))
  clear hod hk4 hva hvb hap
  --%B
  go_wp2_with fail
  refine hpv.mono ?_
  rintro e w5 ⟨hk5,vp,rfl,hh,hD⟩
  rw [HF.out.2.1] at hD
  obtain ⟨po,pc,rfl⟩:∃ po pc,vp = .slice po n pc:=by
    obtain ⟨xs,ho,_⟩:=hD
    exact own_shape ho
  obtain ⟨xs,ho,h1,h2,h3,hx⟩:=hD
  have HV:=hid (show PvS w3 w4 w5 n M ps ra ca po rc cc pc hh 0 from
    { kept:=HO.out.1.trans hk5
      r:=⟨_,own_keptK HO.out.2.1 hk5,fun j hj _ => by
        unfold rowsV
        rw [List.take_of_length_le (by have:=HF.out.2.1; omega),List.getElem?_map,List.getElem?_eq_getElem hj]
        rfl⟩
      c:=own_keptK HO.out.2.2.1 hk5
      p:=⟨xs,ho,fun j hj => by
        obtain ⟨s,a,m,cap,x1,x2,x3,x4⟩:=hx j hj
        exact ⟨s,a,m,cap,x1,x2,fun _ => ⟨x3,x4⟩⟩⟩
      low:=⟨h2,h3⟩ })
  clear hpv hk5 ho h1 h2 h3 hx
  --%C
  go_wp2_with fail
  rename_i K42 hR42
  have HR42:=hid hR42
  clear hR42
  go_loopw [19,140] (fun _ v140 wr => ∃ k:Nat,k≤n∧v140 = .int .i64 (k:Int)∧Hid (PvS w3 w4 wr n M ps ra ca po rc cc pc hh k)) (fun _ v140 _ => n - (intOf v140).toNat)
  case atStart => exact ⟨0,Nat.zero_le _,rfl,HV.out⟩
  case round =>
    clear HV
    obtain ⟨k,hk,rfl,H⟩:=hrel
    generalize wr = w6 at H ⊢
    by_cases hkt:k < n
    · have hkk:(k:Int) < (n:Int):=by omega
      have hk0:(0:Int)≤(k:Int):=by omega
      have hkp:k < ps.length:=by have:=HF.out.2.1; omega
      obtain ⟨b0,rfl,hall⟩:=H3.out.2.2.all (by omega)
      obtain ⟨so,sc',hc,hm⟩:=hall k hkp
      have hlt:=HF.out.1.lt _ (List.getElem_mem hkp)
      obtain ⟨r,hr⟩:∃ x,x = ps[k].1:=⟨_,rfl⟩
      obtain ⟨c,hcl⟩:∃ x,x = ps[k].2:=⟨_,rfl⟩
      rw [← hr,← hcl] at hc hlt
      have hr0:(0:Int)≤(r:Int):=by omega
      have hc0:(0:Int)≤(c:Int):=by omega
      have hr1:(r:Int) < (n:Int):=by omega
      have hc1:(c:Int) < (n:Int):=by omega
      obtain ⟨mb,mo,ra',rc',rfl,_,hmc,hrow⟩:=hm.at hlt.1
      obtain ⟨c1,off1,s3,o3,k3,cp3,rfl,_,_,hcb,hd3,hk3⟩:=hrow.at hlt.2
      have y:=hc w6 (KX.of H.out.kept)
      have y0:=y.1
      have y1:=y.2.1
      have y2:=y.2.2
      have HA:=hid (And.intro hmc (And.intro hcb (And.intro True.intro (And.intro hr (And.intro hcl hlt)))))
      have hd3':=hid hd3.1
      have rS:=RowL.alloc 47 w6 [.int .i64 (r:Int),.int .i64 (c:Int),.slice (some ⟨mb,mo,none⟩) n sc']
      have kS:=(Kept.refl w6).alloc (.cells #[.int .i64 (r:Int),.int .i64 (c:Int),.slice (some ⟨mb,mo,none⟩) n sc'] 47)
      obtain ⟨pS,hpS⟩:∃ p,p = w6.heap.size:=⟨_,rfl⟩
      rw [← hpS] at rS
      have HPS:=hid (show w6.heap.size≤pS by rw [hpS]; exact Nat.le_refl _)
      clear hall hm hc y hr hcl hmc hrow hcb hd3
      --%D
      go_upto_region 33 with fail
      rw [← hpS]
      clear hpS y0 y1 y2
      change RowL 47 (w6.alloc (.cells #[.int .i64 (r:Int),.int .i64 (c:Int),.slice (some ⟨mb,mo,none⟩) n sc'] 47)) pS _ at rS
      generalize w6.alloc (.cells #[.int .i64 (r:Int),.int .i64 (c:Int),.slice (some ⟨mb,mo,none⟩) n sc'] 47) = w7 at rS kS ⊢
      obtain ⟨xr,hor,hxr⟩:=H.out.r
      have hoc:=H.out.c
      obtain ⟨xp,hop,hxp⟩:=H.out.p
      obtain ⟨gr,cpr,er,_⟩:=own_cell hor (by omega)
      cases er
      obtain ⟨gc,cpc,ec,_⟩:=own_cell hoc (by omega)
      cases ec
      obtain ⟨gp,cpp,ep,_⟩:=own_cell hop (by omega)
      cases ep
      obtain ⟨s4,a4,m4,cp4,p1,p2,p3⟩:=hxp k hkt
      have hz4:=(p3 (Nat.le_refl k)).1
      have qr:=(hor.cellAt k (by omega)).trans (hxr k hkp (Nat.le_refl k))
      have qc:=(hoc.cellAt k (by omega)).trans (show (colsV ps n)[k]? = some (.int .i64 (ps[k].2:Int)) by
        unfold colsV
        rw [List.take_of_length_le (by have:=HF.out.2.1; omega),List.getElem?_map,List.getElem?_eq_getElem hkp]
        rfl)
      rw [← HA.out.2.2.2.1] at qr
      rw [← HA.out.2.2.2.2.1] at qc
      have qp1:=(hop.cellAt (k * 2) (by omega)).trans p1
      have qp2:=(hop.cellAt (k * 2 + 1) (by omega)).trans p2
      have lr:=(World.ownsRow.lt hor gr rfl).2
      have lc9:=(World.ownsRow.lt hoc gc rfl).2
      have lp:=(World.ownsRow.lt hop gp rfl).2
      have sS:=hid (fun (V:World) (K:Kept w7 V) => show (fun w':World => w'.cell? ⟨gr,k,none⟩ = some (.int .i64 (r:Int))∧w'.cell? ⟨gc,k,none⟩ = some (.int .i64 (c:Int))∧w'.cell? ⟨gp,k * 2,none⟩ = some (.bool s4)∧w'.cell? ⟨gp,k * 2 + 1,none⟩ = some (.slice a4 m4 cp4)∧w'.cell? ⟨pS,0,none⟩ = some (.int .i64 (r:Int))∧w'.cell? ⟨pS,1,none⟩ = some (.int .i64 (c:Int))∧w'.cell? ⟨pS,2,none⟩ = some (.slice (some ⟨mb,mo,none⟩) n sc')∧w'.cell? ⟨mb,mo + r,none⟩ = some (.slice (some ⟨c1,off1,none⟩) n rc')∧w'.cell? ⟨c1,off1 + c * 2,none⟩ = some (.bool s3)∧w'.cell? ⟨c1,off1 + c * 2 + 1,none⟩ = some (.slice o3 k3 cp3)) V from ⟨(Below.cell (kS.trans K) (p:=⟨gr,k,none⟩) lr).trans qr,(Below.cell (kS.trans K) (p:=⟨gc,k,none⟩) lc9).trans qc,(Below.cell (kS.trans K) (p:=⟨gp,k * 2,none⟩) lp).trans qp1,(Below.cell (kS.trans K) (p:=⟨gp,k * 2 + 1,none⟩) lp).trans qp2,(rS.kept K).cell 0 _ rfl,(rS.kept K).cell 1 _ rfl,(rS.kept K).cell 2 _ rfl,HA.out.1 V (KX.of (H.out.kept.trans (kS.trans K))),(HA.out.2.1 V (KX.of (H.out.kept.trans (kS.trans K)))).1,(HA.out.2.1 V (KX.of (H.out.kept.trans (kS.trans K)))).2⟩)
      have hpf:pivF M ps k = mF M (ps.take k) r c:=by
        unfold pivF
        rw [getD_ps hkp,HA.out.2.2.2.1,HA.out.2.2.2.2.1,mF_left (row_at HF.out.1.rows hkp)]
      have hlim:(mF M (ps.take k) r c).natAbs < _root_.Go.Proofs.YtdcgdpbgnijnpaaGreat.M.W72:=by
        rw [← hpf]
        unfold pivF
        rw [getD_ps hkp]
        have h1:=HF.out.1.lt _ (List.getElem_mem hkp)
        have:=narrow_all (pivs_take HF.out.1.piv k) HF.out.2.2.2 ((fac_wide n [] HF.out.2.2.1).2 k (Nat.zero_le _) (Nat.le_of_lt hkp)) h1.1 h1.2 (row_at HF.out.1.rows hkp)
        have:=w32_72
        omega
      have HX:=hid (And.intro (hd3'.out.kept H.out.kept) (And.intro (ZN.zi hz4) (And.intro hpf (And.intro hlim kS))))
      clear hor hxr hoc hop hxp p1 p2 p3 hz4 qr qc qp1 qp2 lr lc9 lp rS kS hpf hlim
      have KT:Kept w7 w7.drew:=(Kept.refl _).drew
      refine wp_region_held_drew (S:=fun w' => w'.cell? ⟨gr,k,none⟩ = some (.int .i64 (r:Int))∧w'.cell? ⟨gc,k,none⟩ = some (.int .i64 (c:Int))∧w'.cell? ⟨gp,k * 2,none⟩ = some (.bool s4)∧w'.cell? ⟨gp,k * 2 + 1,none⟩ = some (.slice a4 m4 cp4)∧w'.cell? ⟨pS,0,none⟩ = some (.int .i64 (r:Int))∧w'.cell? ⟨pS,1,none⟩ = some (.int .i64 (c:Int))∧w'.cell? ⟨pS,2,none⟩ = some (.slice (some ⟨mb,mo,none⟩) n sc')∧w'.cell? ⟨mb,mo + r,none⟩ = some (.slice (some ⟨c1,off1,none⟩) n rc')∧w'.cell? ⟨c1,off1 + c * 2,none⟩ = some (.bool s3)∧w'.cell? ⟨c1,off1 + c * 2 + 1,none⟩ = some (.slice o3 k3 cp3)) (by kernel_rfl) (sS.out _ KT) (fun hHeld => ?_)
      generalize hwd:w7.drew = V0 at KT hHeld ⊢
      clear hwd
      have G0:=hid KT
      clear KT
      refine tk 0 hHeld ?_
      refine tk 1 hHeld ?_
      refine tk 2 hHeld ?_
      refine tk 3 hHeld ?_
      refine tk 4 hHeld ?_
      refine tk 5 hHeld ?_
      refine tk 6 hHeld ?_
      refine tk 7 hHeld ?_
      refine tk 8 hHeld ?_
      refine tk 9 hHeld ?_
      refine tk 10 hHeld ?_
      refine tk 11 hHeld ?_
      refine tk 12 hHeld ?_
      refine tk 13 hHeld ?_
      refine tk 14 hHeld ?_
      refine tk 15 hHeld ?_
      refine tk 16 hHeld ?_
      refine tk 17 hHeld ?_
      refine tk 18 hHeld ?_
      refine tk 19 hHeld ?_
      refine tk 20 hHeld ?_
      refine tk 21 hHeld ?_
      refine tk 22 hHeld ?_
      refine tk 23 hHeld ?_
      refine tk 24 hHeld ?_
      refine tk 25 hHeld ?_
      refine tk 26 hHeld ?_
      refine tk 27 hHeld ?_
      refine tk 28 hHeld ?_
      refine tk 29 hHeld ?_
      refine tk 30 hHeld ?_
      refine rdy 31 fun K9 hK => ?_
      go_simp
      refine (give_zn s3 o3 k3 cp3 _ V0 (HX.out.1.kept (HX.out.2.2.2.2.trans G0.out)) (by omega) HX.out.2.2.2.1).mono ?_
      rintro e V1 ⟨hk1,o5,n5,c5,rfl,hz5⟩
      have H1:=hid (And.intro (G0.out.trans hk1) hz5)
      refine hK.out _ _ (sS.out _ H1.out.1) (fun hHeld => ?_)
      clear hK hk1 hz5
      refine rdy 32 fun K9 hK => ?_
      go_simp
      refine (same_eq14 s4 s3 a4 o5 m4 cp4 n5 c5 _ _ V1 (HX.out.2.1.kept (HX.out.2.2.2.2.trans H1.out.1)) (ZN.zi H1.out.2) HX.out.2.2.1).mono ?_
      rintro e V2 ⟨hk2,rfl⟩
      have H2:=hid (HX.out.2.2.2.2.trans (H1.out.1.trans hk2))
      refine hK.out _ _ (sS.out _ (H1.out.1.trans hk2)) (fun hHeld => ?_)
      clear hK hk2
      refine tk 33 hHeld ?_
      refine tk 34 hHeld ?_
      refine _root_.Go.Proofs.YtdcgdpbgnijnpaaGreat.dn ?_
      have HP:=hid (H.out.keep H2.out)
      clear sS HX H1 G0 hHeld
      obtain ⟨xp,hop,hxp⟩:=HP.out.p
      obtain ⟨s5,a5,m5,cp5,p1,p2,p3⟩:=hxp k hkt
      have hz5:=p3 (Nat.le_refl k)
      have hm72:m5≤72:=Bm.ZI.len (ZN.zi hz5.1)
      have x1:=(hop.cellAt (k * 2 + 1) (by omega)).trans p2
      have hrd:=hid (fun (V:World) (h:Ow (hh k) (hh (k + 1)) V2 V) => ((h.own hop (by decide)).cellAt (k * 2 + 1) (by omega)).trans p2)
      have HZ5:=hid hz5
      clear hop hxp p1 p2 p3 hz5
      --%F
      go_wp2_with fail
      clear x1
      go_loopw [21,186] (fun _ v186 wr => ∃ j:Nat,j≤m5∧v186 = .int .i64 (j:Int)∧Hid (Ow (hh k) (hh (k + 1)) V2 wr)) (fun _ v186 _ => m5 - (intOf v186).toNat)
      case atStart => exact ⟨0,Nat.zero_le _,rfl,Ow.refl _ _ _⟩
      case round =>
        obtain ⟨j,hj,rfl,L⟩:=hrel
        generalize wr = w8 at L ⊢
        have x1:=hrd.out w8 L.out
        by_cases hjt:j < m5
        · have hjj:(j:Int) < (m5:Int):=by omega
          have hj0:(0:Int)≤(j:Int):=by omega
          obtain ⟨b,rfl,hb1,hb2,hb3,hb4⟩:=zn_wr HZ5.out.1 (by omega)
          have hb5:=HZ5.out.2 (by omega) b 0 none rfl
          obtain ⟨⟨v9,y0⟩,f0⟩:=L.out.2 b m5 hb4 j hjt
          have HN:=hid (L.out.set (p:=⟨b,j,none⟩) ⟨hb1,hb5,hb3⟩ (.int .u32 5))
          clear hb1 hb2 hb3 hb4 hb5
          --%G
          go_wp2_with fail
          go_roundw
          case rel => exact ⟨j + 1,by omega,by go_num,HN.out⟩
          case measure => show m5 - ((j:Int) + 1).toNat < m5 - (j:Int).toNat; omega
        · have hjj:¬ (j:Int) < (m5:Int):=by omega
          obtain ⟨xr,hor,hxr⟩:=HP.out.r
          have hoc:=HP.out.c
          obtain ⟨xp,hop,hxp⟩:=HP.out.p
          have gap:=own_apart hop hor (by decide)
          have gac:gr ≠ gc:=fun e => HO.out.2.2.2 gr rfl (by rw [e]; rfl)
          have hor':=L.out.own hor (by decide)
          have hoc':=L.out.own hoc (by decide)
          have hop':=L.out.own hop (by decide)
          have x0:=(hor'.cellAt k (by omega)).trans (hxr k hkp (Nat.le_refl k))
          have f0:=hor'.frozenAt k
          have hgr:=(World.ownsRow.lt hor' gr rfl).1
          have hmono:=HP.out.mono
          have kr:KX (fun q => q = gr) w8 (w8.setCell ⟨gr,k,none⟩ (.int .i64 (-1))):=(KX.refl w8).setCell (T:=fun q => q = gr) (p:=⟨gr,k,none⟩) (.inl rfl) _
          have hfr:Free 40 (fun q => q = gr) w8:=fun q hq cur fr e => own_not hor' (by decide) ⟨cur,fr,by rw [← hq]; exact e⟩
          have HE:=hid (show PvS w3 w4 (w8.setCell ⟨gr,k,none⟩ (.int .i64 (-1))) n M ps (some ⟨gr,0,none⟩) (some ⟨gc,0,none⟩) (some ⟨gp,0,none⟩) rc cc pc hh (k + 1) from
            { kept:=(KX.kept HP.out.kept L.out.1 fun q hq => by
                have h1:=HP.out.low.1
                have h2:=hmono 0 k (Nat.zero_le _) (by omega)
                have h3:=HO.out.1.size
                have h4:hh k≤q:=hq.1
                omega).setCell (p:=⟨gr,k,none⟩) hgr _
              r:=⟨_,(hor'.stored k (.int .i64 (-1))).1,fun j hj hkj => by rw [List.getElem?_set_ne (by omega)]; exact hxr j hj (by omega)⟩
              c:=own_kept hoc' fun q hq => by
                have e:gc = q:=by simpa [Value.ownBlock] using hq
                exact kr.block q (by rw [← e]; exact (World.ownsRow.lt hoc' gc rfl).2) (by rw [← e]; exact fun h => gac h.symm)
              p:=⟨xp,own_kept hop' fun q hq => by
                have e:gp = q:=by simpa [Value.ownBlock] using hq
                exact kr.block q (by rw [← e]; exact (World.ownsRow.lt hop' gp rfl).2) (by rw [← e]; exact gap),fun j hj => by
                obtain ⟨s,a,m,cap,x1,x2,x3⟩:=hxp j hj
                refine ⟨s,a,m,cap,x1,x2,fun hkj => ⟨?_,(x3 (by omega)).2⟩⟩
                have h1:=hmono (k + 1) j (by omega) (by omega)
                exact ZN.kx (ZN.low (x3 (by omega)).1 L.out.1 fun q hq => Nat.lt_of_lt_of_le hq.2.1 h1) kr hfr⟩
              low:=HP.out.low })
          clear hor hxr hoc hop hxp hor' hoc' hop' gap gac hgr hmono kr hfr x1
          --%H
          go_wp2_with fail
          go_roundw
          case rel => exact ⟨k + 1,by omega,by go_num,HE.out⟩
          case measure => show n - ((k:Int) + 1).toNat < n - (k:Int).toNat; omega
    · have hkk:¬ (k:Int) < (n:Int):=by omega
      --%Z
      go_wp2_with fail
      refine HR42.out _ _ ?_
      exact tells_tail5 hn HF HB (hid ⟨H3.out.1.trans H.out.kept,H3.out.2.1.kept H.out.kept,H3.out.2.2.kept H.out.kept⟩)
end Bp
end Go.Proofs.YtdcgdpbgnijnpaaGreat
