/- slices.Collect(maps.Values(m)); bareiss's table.wide. slices.Collect(maps.Values(m)), told as numbers; bareiss's table.wide. -/
import Derived.Test.YtdcgdpbgnijnpaaGreatMzd
import Derived.Test.YtdcgdpbgnijnpaaGreatGaq
import Derived.Test.YtdcgdpbgnijnpaaGreatGao
namespace Go.Proofs.YtdcgdpbgnijnpaaGreat
open Go.RowKit Go.MapKept Go.Shelf
open V (RowL RowL.alloc RowL.lt RowL.cell RowL.fz RowL.kept)
open Sp (hid)
open Sy (alloc_sz)
attribute [local go_sem] Oper.semAt_some
namespace Bp
theorem und_zs:Tryz.prog.underlying 23 = some (.slice 37):=by kernel_rfl
theorem info_z:(Tryz.prog.info? 37).map (fun i => (i.zero,i.size,i.bytes)) = some (some (.agg #[.bool false,.slice none 0 0]),2,32):=by kernel_rfl
def vcells (V:Vals) (ks:List Nat):List Value:=ks.flatMap fun k => [.bool (V.s k),.slice (V.ao k) (V.k k) (V.c k)]
theorem vcells_snoc (V:Vals) (ks:List Nat) (k:Nat):vcells V (ks ++ [k]) = vcells V ks ++ [.bool (V.s k),.slice (V.ao k) (V.k k) (V.c k)]:=by
 unfold vcells
 rw [List.flatMap_append]
 rfl
theorem vcells_at (V:Vals):∀ (ks:List Nat) (j:Nat) (hj:j < ks.length),(vcells V ks)[j * 2]? = some (.bool (V.s ks[j]))∧(vcells V ks)[j * 2 + 1]? = some (.slice (V.ao ks[j]) (V.k ks[j]) (V.c ks[j])):=by
 intro ks
 induction ks with
 | nil => intro j hj; exact absurd hj (Nat.not_lt_zero _)
 | cons k t ih =>
  intro j hj
  cases j with
  | zero => exact ⟨rfl,rfl⟩
  | succ j =>
   have:=ih j (by simpa using hj)
   show (_ :: _ :: vcells V t)[_]? = _∧(_ :: _ :: vcells V t)[_]? = _
   rw [show (j + 1) * 2 = j * 2 + 1 + 1 by omega,show j * 2 + 1 + 1 + 1 = (j * 2 + 1) + 1 + 1 by omega,List.getElem?_cons_succ,List.getElem?_cons_succ,List.getElem?_cons_succ,List.getElem?_cons_succ]
   exact this
theorem row_own {β:Type} (B:Nat) (t:TypeId) (xs:List Value):Own (fun (_:β) W => RowL t W B xs):=fun s X Y row hs hg hrow => by
 refine World.rowIs.of_block hs (hg.block B hs.lt fun e' => ?_)
 obtain ⟨o,ho,hc⟩:=hrow B e'.symm
 obtain ⟨c,h4,_⟩:=hs
 rw [h4] at ho; cases ho; cases hc
theorem cells_new2 (w:World) (t:TypeId) (a b:Value):∀ j u,[a,b][j]? = some u→(w.alloc (.cells #[a,b] t)).cell? ((⟨w.heap.size,0,none⟩:Addr).add j) = some u:=by
 intro j u hu
 have r:=RowL.alloc t w [a,b]
 match j,hu with
 | 0,hu => cases hu; exact r.cell 0 _
 | 1,hu => cases hu; exact r.cell 1 _
set_option maxRecDepth 100000 in
set_option maxHeartbeats 4000000 in
theorem appendSeq_in (m:Nat) (hm:4≤m) (Bm b n:Nat) (f:Nat→Int) (V:Vals) (w:World) (hn:n≤1000) (hc:w.cell? ⟨Bm,0,none⟩ = some (.map (some b))) (hM:MapV w b n f V) :
  CallsIn Fence.wide m Tryz.prog 97 #[.slice none 0 0,.func (.func 98) #[] #[.pointer (some ⟨Bm,0,none⟩)]] w fun e w' =>
   ∃ (v:Value) (ks:List Nat),e = .returned v∧(ks.Nodup∧ks.length≤n∧∀ k,k ∈ ks ↔ f k ≠ 0)∧w'.ownsRow w.heap.size 37 2 v ks.length (vcells V ks)∧Below w.heap.size w w':=by
 have h1:1≤m:=by omega
 obtain ⟨i0,hi,hz0,hz1,hz2⟩:=info_parts info_z
 have bS:=Boxed.new w 23 (.slice none 0 0)
 have hB0:Below w.heap.size w (w.alloc (.cells #[.slice none 0 0] 23)):=(Below.refl _ w).alloc (Nat.le_refl _) _
 have hsz:(w.alloc (.cells #[.slice none 0 0] 23)).heap.size = w.heap.size + 1:=by simp
 have hBm:Bm < w.heap.size:=by
  rcases Nat.lt_or_ge Bm w.heap.size with h | h
  ·
   exact h
  ·
   simp [World.cell?,Array.getElem?_eq_none h] at hc
 have hb:b < w.heap.size:=by
  obtain ⟨es,clock,h,_⟩:=hM
  exact (Array.getElem?_eq_some_iff.1 h).1
 refine callsIn_of_wp_marks Tryz.func97 rfl trivial ?_ rfl
 simp only [Tryz.ntmps97,List.size_toArray,List.length_cons,List.length_nil,Nat.reduceAdd,Nat.reduceSub,Array.replicate_succ,Array.replicate_zero,List.push_toArray,List.append_toArray,List.nil_append,List.cons_append]
 --%A
 gi_wp2
 obtain ⟨W0,hW0⟩:∃ W0,w.alloc (.cells #[.slice none 0 0] 23) = W0:=⟨_,rfl⟩
 rw [hW0] at bS hB0 hsz ⊢
 clear hW0
 have hstops:SeqStopsK Fence.wide (m - 1) Tryz.prog 98 #[.pointer (some ⟨Bm,0,none⟩)] (fun k:Nat => #[V.v k]) KeepsWalks (fun ks => ks.Nodup∧ks.length≤n∧∀ k,k ∈ ks ↔ f k ≠ 0) (fun _ => True) n W0:=fun l J Jx W hW hJ _ hY h0 =>
  vals1_in (m - 1) (by omega) l Bm b n f V J Jx hY W hJ ((hW.cell (p:=⟨Bm,0,none⟩) (by rw [hsz]; simp; omega)).trans ((hB0.cell (p:=⟨Bm,0,none⟩) hBm).trans hc)) (by
   obtain ⟨es,clock,h,h2⟩:=hM
   exact ⟨es,clock,(hW.block b (by rw [hsz]; omega)).trans ((hB0.block b hb).trans h),h2⟩) h0
 clear hc hM hBm hb
 --%B
 refine wpIn_rangeFunc_ownH rfl h1 (gf:=98) (lb:=#[.pointer (some ⟨Bm,0,none⟩)]) rfl trivial (enters_of Tryz.func98 (by kernel_rfl) rfl)
  hstops walksK_t walksK_b (Below.refl _ _) (fun _ => rfl)
  (fun pre W => (∃ v,Boxed W w.heap.size 23 v∧W.ownsRow w.heap.size 37 2 v pre.length (vcells V pre)∧True)∧Below w.heap.size w W)
  (fun _ _ _ => False)
  (OwnFrom.and (Own.from (holdsRow_own w.heap.size w.heap.size 23 37 2 (fun pre:List Nat => pre.length) (fun pre => vcells V pre) (fun _ _ => True)) _) (ownFrom_below (Nat.le_refl _) (by omega)))
  (fun _ _ _ _ _ hs _ _ => hs)
  ⟨⟨_,bS,World.ownsRow_nil _ _ _ _,trivial⟩,hB0⟩
  (fun k a' W => ∃ Bx,w.heap.size < Bx∧RowL 37 W Bx [.bool (V.s k),.slice (V.ao k) (V.k k) (V.c k)]∧a' = { tmps:=#[.slice none 0 0,.func (.func 98) #[] #[.pointer (some ⟨Bm,0,none⟩)],.pointer (some ⟨w.heap.size,0,none⟩),undef,.slice none 0 0,.pointer (some ⟨Bx,0,none⟩),.func (.func 98) #[] #[.pointer (some ⟨Bm,0,none⟩)],V.v k,undef,undef,undef,undef,undef],defers:=[] })
  (fun k a' _ X Y row hs hg hr => by obtain ⟨Bx,h1,h2,h3⟩:=hs; exact ⟨Bx,h1,row_own (β:=Unit) Bx 37 [.bool (V.s k),.slice (V.ao k) (V.k k) (V.c k)] () X Y row h2 hg (fun r e => (hr r e).2),h3⟩)
  ?assign ?body ?done ?stop
 case assign =>
  rintro l pre k W K ⟨⟨v,hv,hrow,_⟩,hB⟩ hK
  gi_wp2
  exact hK _ _ ((KeepsOthers.alloc _ _).from _) (KeepsWalks.alloc _ _) ⟨⟨v,hv.alloc _,hrow.alloc _,trivial⟩,hB.alloc hB.size _⟩ ⟨W.heap.size,hv.lt,RowL.alloc 37 W [.bool (V.s k),.slice (V.ao k) (V.k k) (V.c k)],rfl⟩
 case body =>
  rintro l pre k a' W hl ⟨r,hr⟩ ⟨⟨v,hv,hrow,_⟩,hB⟩ ⟨Bx,hBx,bX,rfl⟩ hlt
  have hcv:=hv.cell
  have d0:=bX.cell 0 _
  have d1:=bX.cell 1 _
  have hle:=hB.size
  --%C
  gi_wp2_with (gi_at_builtin; refine wpListIn_append_own _ rfl _ _ 23 rfl w.heap.size 37 i0 (.agg #[.bool false,.slice none 0 0]) 2 32 und_zs hi hz0 hz1 hz2 rfl (by decide) _ _ _ rfl (hrow.alloc _) ⟨W.heap.size,0,none⟩ 1 1 [.bool (V.s k),.slice (V.ao k) (V.k k) (V.c k)] rfl rfl (cells_new2 W _ _ _) (by simp [Value.oneCell']) (by unfold maxLen; omega) (by omega) (by simp; omega) ?_; intro v' w1 hown' hgrow _; obtain ⟨g',cap',rfl⟩:=ownsRow_succ hown'; obtain ⟨hv1,hv2,hr2,hk2,hb2⟩:=hv.appended (by decide) hrow hB.size (Nat.le_refl _) hown' hgrow; have hc1:=hv1.cell; have hf1:=hv1.frozen)
  --%D
  refine ⟨hk2.from _,?_,⟨_,hv2,?_,trivial⟩,hB.trans hb2⟩
  ·
   refine ⟨hk2.size,fun i o ho hw => hk2.same i o ho (by cases o <;> first | rfl | cases hw)⟩
  ·
   rw [List.length_append,vcells_snoc]
   exact hr2
 case done =>
  rintro D ks W hD hS ⟨⟨v,hv,hrow,_⟩,hB⟩ hK
  have hcv:=hv.cell
  gi_wp2
  refine ⟨by simp,.inl ⟨_,_,rfl,run_takeDeferred hK,?_⟩⟩
  exact ⟨_,results_tmp rfl _ _ _,v,ks,rfl,hS,ownsRow_putObj hrow _ hK rfl,hB.trans (belowK_b (w:=w) (Nat.le_refl _) W D _ _ (by omega) hK rfl rfl)⟩
 case stop =>
  rintro D c pre W _ _ h _
  exact h.elim
end Bp
end Go.Proofs.YtdcgdpbgnijnpaaGreat

namespace Go.Proofs.YtdcgdpbgnijnpaaGreat
open Go.RowKit Go.MapKept Go.Shelf
open V (RowL RowL.alloc RowL.lt RowL.cell RowL.fz RowL.kept)
open Sp (hid)
open Sy (alloc_sz)
open Bm (ZI ZI.kept)
namespace Bp
set_option maxRecDepth 100000 in
set_option maxHeartbeats 2000000 in
theorem values_any (mb:Option Nat) (W:World):Calls Tryz.prog 79 #[.map mb] W fun e w' => e = .returned (.func (.func 98) #[] #[.pointer (some ⟨W.heap.size,0,none⟩)])∧w' = W.alloc (.cells #[.map mb] 85):=by
 go_enter Tryz.func79,Tryz.ntmps79
 go_wp2_with fail
 go_ret
 exact ⟨rfl,rfl⟩
def ColIs (w:World) (n:Nat) (f:Nat→Int) (e:Ending) (w':World):Prop :=
 Kept w w'∧∃ (ao:Option Addr) (m c:Nat) (zs:Nat→Int),e = .returned (.slice ao m c)∧IL zs w' (.slice ao m c) m∧m≤n∧(∀ j,j < m→∃ k,f k ≠ 0∧zs j = f k)∧∀ k,f k ≠ 0→∃ j,j < m∧zs j = f k
set_option maxRecDepth 100000 in
set_option maxHeartbeats 2000000 in
theorem collect_any {B n:Nat} {w:World} {f:Nat→Int} (b:Nat) (h:NumM B w b n f) (hn:n≤1000) :
  Calls Tryz.prog 78 #[.func (.func 98) #[] #[.pointer (some ⟨w.heap.size,0,none⟩)]] (w.alloc (.cells #[.map (some b)] 85)) (ColIs (w.alloc (.cells #[.map (some b)] 85)) n f):=by
 obtain ⟨V,hM,hV⟩:=h.vals
 have kA:=(Kept.refl w).alloc (.cells #[.map (some b)] 85)
 have rA:=RowL.alloc 85 w [.map (some b)]
 have hM':MapV (w.alloc (.cells #[.map (some b)] 85)) b n f V:=by
  obtain ⟨es,clock,h1,h2⟩:=hM
  exact ⟨es,clock,(kA.block b (Array.getElem?_eq_some_iff.1 h1).1).trans h1,h2⟩
 have hV':=hid (fun k (hk:f k ≠ 0) => (hV k hk).kept kA)
 clear hM hV
 have hc:=(callsIn_wide (n:=4)).1 (appendSeq_in 4 (by omega) w.heap.size b n f V _ hn (rA.cell 0 _) hM')
 generalize w.alloc (.cells #[.map (some b)] 85) = W at hc hV' ⊢
 clear kA rA hM' h
 generalize w.heap.size = p at hc ⊢
 obtain ⟨Q,hQ⟩:∃ Q,Q = ColIs W n f:=⟨_,rfl⟩
 rw [← hQ]
 have HQ:=hid hQ
 clear hQ
 go_enter Tryz.func78,Tryz.ntmps78
 go_wp2_with fail
 refine hc.mono ?_
 rintro e w' ⟨v,ks,rfl,hS,hrow,hb⟩
 have HK:=hid (And.intro hS (And.intro hrow hb))
 clear hS hrow hb hc
 go_wp2_with fail
 show Q (.returned v) w'
 rw [HQ.out]
 obtain ⟨⟨h1,h2,h3⟩,hrow,hb⟩:=HK.out
 have hz:∀ j (hj:j < ks.length),NV B w' (V.v ks[j]) (f ks[j]):=fun j hj => (hV'.out _ ((h3 _).1 (List.getElem_mem hj))).kept hb
 have hmem:∀ k,f k ≠ 0→∃ j,j < ks.length∧(fun j => f (ks.getD j 0)) j = f k:=fun k hk => by
  obtain ⟨j,hj,e⟩:=List.getElem_of_mem ((h3 k).2 hk)
  refine ⟨j,hj,?_⟩
  show f (ks.getD j 0) = f k
  rw [List.getD_eq_getElem?_getD,List.getElem?_eq_getElem hj,← e]
  rfl
 have hmem2:∀ j,j < ks.length→∃ k,f k ≠ 0∧(fun j => f (ks.getD j 0)) j = f k:=fun j hj => by
  refine ⟨ks[j],(h3 _).1 (List.getElem_mem hj),?_⟩
  show f (ks.getD j 0) = _
  rw [List.getD_eq_getElem?_getD,List.getElem?_eq_getElem hj]
  rfl
 rcases hrow.2 with ⟨rfl,h0⟩ | ⟨g,cap,cur,rfl,hg1,hg2,hg3,hg4,hg5,hg6⟩
 ·
  refine ⟨hb,none,ks.length,0,fun j => f (ks.getD j 0),by rw [h0],⟨none,0,rfl,fun h => by omega⟩,h2,hmem2,hmem⟩
 ·
  refine ⟨hb,some ⟨g,0,none⟩,ks.length,cap,fun j => f (ks.getD j 0),rfl,⟨_,_,rfl,fun _ => ⟨g,0,rfl,(Array.getElem?_eq_some_iff.1 hg2).1,fun j hj => ?_⟩⟩,h2,hmem2,hmem⟩
  obtain ⟨e1,e2⟩:=vcells_at V ks j hj
  have hcell:∀ i u,(vcells V ks)[i]? = some u→w'.cell? ⟨g,i,none⟩ = some u:=fun i u hu => by
   rw [← hg6] at hu
   have hi:i < ks.length * 2:=by
    have:=(List.getElem?_eq_some_iff.1 hu).1
    rw [List.length_take] at this
    omega
   rw [List.getElem?_take_of_lt hi,Array.getElem?_toList] at hu
   simp only [World.cell?,hg2]
   exact hu
  refine ⟨V.s ks[j],V.ao ks[j],V.k ks[j],V.c ks[j],by rw [Nat.zero_add]; exact hcell _ _ e1,by rw [Nat.zero_add]; exact hcell _ _ e2,?_⟩
  show ZI w' _ _ (f (ks.getD j 0))
  rw [List.getD_eq_getElem?_getD,List.getElem?_eq_getElem hj]
  obtain ⟨s,ao,k,c,e,hz1,_⟩:=(hz j hj).zn
  simp only [Vals.v,Value.agg.injEq] at e
  have e:=congrArg Array.toList e
  simp only [List.cons.injEq,Value.bool.injEq,and_true] at e
  obtain ⟨e3,e4⟩:=e
  rw [e3,e4]
  exact hz1.zi
theorem wide_0 (limbs:Nat):Ba.wideZ limbs 0 = false:=by
 unfold Ba.wideZ
 rw [decide_eq_false_iff_not]
 have:0 < 4294967296 ^ limbs:=Nat.pow_pos (by decide)
 simp
theorem enter_widet (args:Array Value) (w:World):(callFunc 77 args).run Tryz.prog w = .ok (.enter 77 args) w:=by simp
set_option maxRecDepth 100000 in
set_option maxHeartbeats 4000000 in
theorem widet1_any {B n b p limbs:Nat} {w:World} {f:Nat→Int} (h:NumM B w b n f) (hn:n≤1000) (hp:p < w.heap.size) (hc:w.cell? ⟨p,0,none⟩ = some (.int .i64 (limbs:Int))) :
  Calls Tryz.prog 77 #[.map (some b),.pointer (some ⟨p,0,none⟩)] w fun e w' => e = .returned (.bool (anyB (fun k => Ba.wideZ limbs (f k)) n))∧Kept w w':=by
 have hbb:∀ m (zs:Nat→Int),(∀ j,j < m→∃ k,f k ≠ 0∧zs j = f k)→(∀ k,f k ≠ 0→∃ j,j < m∧zs j = f k)→anyB (fun j => Ba.wideZ limbs (zs j)) m = anyB (fun k => Ba.wideZ limbs (f k)) n:=by
  intro m zs h1 h2
  rw [Bool.eq_iff_iff,anyB_ex,anyB_ex]
  constructor
  ·
   rintro ⟨j,hj,e⟩
   obtain ⟨k,hk,e2⟩:=h1 j hj
   rw [e2] at e
   exact ⟨k,h.lt_n hk,e⟩
  ·
   rintro ⟨k,_,e⟩
   have hk:f k ≠ 0:=fun e0 => by
    rw [e0,wide_0] at e
    cases e
   obtain ⟨j,hj,e2⟩:=h2 k hk
   exact ⟨j,hj,by rw [e2]; exact e⟩
 generalize hB:anyB (fun k => Ba.wideZ limbs (f k)) n = bb at hbb
 have HB:=hid hbb
 clear hbb hB
 have HH:=hid (fun (W:World) (K:Kept w W) => h.kept K)
 have HP:=hid (fun (W:World) (K:Kept w W) => (K.cell (p:=⟨p,0,none⟩) hp).trans hc)
 clear h hp hc
 go_enter Tryz.func77,Tryz.ntmps77
 go_upto_region 1 with fail
 have KT:Kept w w.drew:=(Kept.refl _).drew
 refine wp_region_held_drew (S:=fun w' => w'.cell? ⟨p,0,none⟩ = some (.int .i64 (limbs:Int))) (by kernel_rfl) (HP.out _ KT) (fun hHeld => ?_)
 generalize w.drew = Wd at KT hHeld ⊢
 refine wk 0 hHeld ?_
 refine wk 3 hHeld ?_
 refine wpAnyH_ready (rs:=[1]) (by kernel_rfl) (by simp) ?_
 refine AllReadyH.cons rfl (fun K hK => ?_) AllReadyH.nil
 go_simp
 refine (values_any (some b) Wd).mono ?_
 rintro e w1 ⟨rfl,rfl⟩
 refine hK.out _ _ (HP.out _ (KT.alloc _)) (fun hHeld => ?_)
 clear hK K
 have hcol:=collect_any b (HH.out _ KT) hn
 have KT:=KT.alloc (.cells #[.map (some b)] 85)
 obtain ⟨q,hq⟩:∃ q,q = Wd.heap.size:=⟨_,rfl⟩
 rw [← hq] at hcol ⊢
 clear hq
 generalize Wd.alloc (.cells #[.map (some b)] 85) = We at KT hHeld hcol ⊢
 refine wpAnyH_ready (rs:=[2]) (by kernel_rfl) (by simp) ?_
 refine AllReadyH.cons rfl (fun K hK => ?_) AllReadyH.nil
 go_simp
 refine hcol.mono ?_
 rintro e w2 ⟨hk,ao,m,c,zs,rfl,hL,hm,h1,h2⟩
 refine hK.out _ _ (HP.out _ (KT.trans hk)) (fun hHeld => ?_)
 clear hK K hcol
 have KT:=KT.trans hk
 have HZ:=hid (HB.out m zs h1 h2)
 have hw:=widel_any zs ao m c limbs w2 hL (by omega)
 clear hk h1 h2 hL hm
 refine wpAnyH_ready (rs:=[4]) (by kernel_rfl) (by simp) ?_
 refine AllReadyH.cons rfl (fun K hK => ?_) AllReadyH.nil
 go_simp
 refine hw.mono ?_
 rintro e w3 ⟨hk,rfl⟩
 refine hK.out _ _ (HP.out _ (KT.trans hk)) (fun hHeld => ?_)
 clear hK K hw
 have HK:=hid (KT.trans hk)
 clear KT hk
 rw [HZ.out]
 refine wk 5 hHeld ?_
 refine wpAnyH_done (by kernel_rfl) ?_ _
 go_wp2_with fail
 go_ret
 exact ⟨rfl,HK.out⟩
set_option maxRecDepth 100000 in
set_option maxHeartbeats 4000000 in
theorem widet_any (B n bt:Nat) (ms:Nat→Option Nat) (F:Nat→Nat→Int) (ao:Option Addr) (cap limbs:Nat) (w:World) (h:TabR B w ao bt n ms F) (hm:∀ i,i < n→∃ b,ms i = some b) (hn:n≤1000) :
  Calls Tryz.prog 47 #[.slice ao n cap,.int .i64 (limbs:Int)] w fun e w' => Kept w w'∧e = .returned (.bool (anyB (fun i => anyB (fun k => Ba.wideZ limbs (F i k)) n) n)):=by
 have r:=RowL.alloc 3 w [.int .i64 (limbs:Int)]
 have k:=(Kept.refl w).alloc (.cells #[.int .i64 (limbs:Int)] 3)
 go_enter Tryz.func47,Tryz.ntmps47
 go_upto_region 1 with fail
 generalize w.alloc (.cells #[.int .i64 (limbs:Int)] 3) = W at r k ⊢
 obtain ⟨p,hp⟩:∃ p,p = w.heap.size:=⟨_,rfl⟩
 rw [← hp] at r ⊢
 have hl:El1 isMp (fun V j v => ∃ b,v = .map (some b)∧NumM B V b n (F j)) W (.slice ao n cap) n:=by
  have hT:=h.kept k
  refine ⟨ao,cap,rfl,fun h0 => ?_⟩
  obtain ⟨e,_,_,hlt,_⟩:=hT.cell h0
  refine ⟨bt,0,e,hlt,fun j hj => ?_⟩
  obtain ⟨b,eb⟩:=hm j hj
  refine ⟨.map (some b),⟨_,rfl⟩,?_,b,rfl,hT.map hj eb⟩
  rw [Nat.zero_add,(hT.cell hj).2.1,eb]
 have hc:=con_tab 77 #[.pointer (some ⟨p,0,none⟩)] (fun i => anyB (fun k => Ba.wideZ limbs (F i k)) n) enter_widet (fun V j v => ∃ b,v = .map (some b)∧NumM B V b n (F j)) (fun _ _ _ _ k ⟨b,h1,h2⟩ => ⟨b,h1,h2.kept k⟩) ao n cap W (fun V j v K _ hq => by
  obtain ⟨b,rfl,hM⟩:=hq
  have hr:=r.kept K
  exact (widet1_any hM hn hr.lt (hr.cell 0 _)).mono fun e w' ⟨a,b⟩ => ⟨a,K.trans b⟩) hl (by omega)
 have HC:=hid hc
 have HK:=hid k
 clear hc r hp k h hm hl
 go_wp2_with fail
 refine HC.out.mono ?_
 rintro e w1 ⟨hk,rfl⟩
 have HK:=hid (HK.out.trans hk)
 clear hk
 go_wp2_with fail
 go_ret
 exact ⟨HK.out,rfl⟩
end Bp
end Go.Proofs.YtdcgdpbgnijnpaaGreat
