/- A reckoning's join where whole and part are on different sides of 0. -/
import Derived.Test.YthfbfbfambbkaaaGreatDoorFjoin
import Derived.Test.YthfbfbfambbkaaaGreatDoorGam
namespace Go.Proofs.YthfbfbfambbkaaaGreatDoor
open Go.RowKit
namespace F
theorem sgn_small (x:Int):-1<=isgn x 0/\isgn x 0<=1:=by unfold isgn; split <;> (try split) <;> omega
set_option maxHeartbeats 4000000 in
theorem join_yes (kb:Nat) (x m n:Bool) (aoa aob aod:Option Addr) (ka ca kb' cb kd cd:Nat) (a b d:List Nat) (w:World) (hF:Flag w kb x) (ha:Sl w (.slice aoa ka ca) a) (hb:Sl w (.slice aob kb' cb) b) (hd:Sl w (.slice aod kd cd) d) (hra:R m a) (hrb:R n b) (hrd:R false d) (nd:Bool) (hnd:(m && decide (0 < kd)) = nd) (hrm:R nd d)
  (hs:isgn (M.int m a) 0 * isgn (M.int n b) 0 < 0) :
  Calls Tryz.prog 129 #[.pointer (some ⟨kb,0,none⟩),.agg #[.bool m,.slice aoa ka ca],.agg #[.bool n,.slice aob kb' cb],.agg #[.bool false,.slice aod kd cd]] w fun e w' => KeptK kb w w'/\RecP kb w.heap.size x w' e ((M.int n b + M.int nd d).natAbs < M.W72/\(M.int m a - isgn (M.int m a) 0).natAbs < M.W72/\((M.int m a - isgn (M.int m a) 0) * M.int false d).natAbs < M.W72/\((M.int m a - isgn (M.int m a) 0) * M.int false d + (M.int n b + M.int nd d)).natAbs < M.W72) ((M.int m a - isgn (M.int m a) 0) * M.int false d + (M.int n b + M.int nd d)):=by
 have HW:=sgn_wrap (M.int m a) (M.int n b)
 have HR:Hid (R m a/\R n b/\R false d/\R nd d):=⟨hra,hrb,hrd,hrm⟩
 have HA:Hid (Sl w (.slice aoa ka ca) a/\Sl w (.slice aob kb' cb) b/\Flag w kb x/\Sl w (.slice aod kd cd) d):=⟨ha,hb,hF,hd⟩
 have hlt:=hF.lt
 obtain ⟨sa,hsa⟩:∃ sa,sa = isgn (M.int m a) 0:=⟨_,rfl⟩
 obtain ⟨sb,hsb⟩:∃ sb,sb = isgn (M.int n b) 0:=⟨_,rfl⟩
 rw [<- hsa,<- hsb] at HW hs
 have HN:Hid (sa = isgn (M.int m a) 0/\sb = isgn (M.int n b) 0):=⟨hsa,hsb⟩
 clear hra hrb hrd hrm ha hb hd hF hsa hsb
 have K4:∀ x y t u,Kept w ((((w.alloc x).alloc y).alloc t).alloc u):=fun x y t u => ((((Kept.refl w).alloc x).alloc y).alloc t).alloc u
 have HK4:Hid (∀ W,Kept ((((w.alloc (.cells #[.bool m,.slice aoa ka ca] 27)).alloc (.cells #[.bool n,.slice aob kb' cb] 27)).alloc (.cells #[.bool false,.slice aod kd cd] 27)).alloc (.cells #[.bool false,.slice none 0 0] 27)) W->W.cell? ⟨w.heap.size,0,none⟩ = some (.bool m)/\W.cell? ⟨w.heap.size,1,none⟩ = some (.slice aoa ka ca)/\W.cell? ⟨w.heap.size + 1,0,none⟩ = some (.bool n)/\W.cell? ⟨w.heap.size + 1,1,none⟩ = some (.slice aob kb' cb)/\(W.cell? ⟨w.heap.size + 1 + 1,0,none⟩ = some (.bool false)/\W.cell? ⟨w.heap.size + 1 + 1,1,none⟩ = some (.slice aod kd cd))/\(∀ o,W.frozen? ⟨w.heap.size,o,none⟩ = false/\W.frozen? ⟨w.heap.size + 1,o,none⟩ = false)/\(W.cell? ⟨w.heap.size + 1 + 1 + 1,0,none⟩ = some (.bool false)/\W.cell? ⟨w.heap.size + 1 + 1 + 1,1,none⟩ = some (.slice none 0 0))/\∀ o,W.frozen? ⟨w.heap.size + 1 + 1 + 1,o,none⟩ = false):=fun W hk => by
  obtain ⟨h1,h2,h3,h4,h5,h6⟩:=box_kept3 (((Kept.refl _).alloc _).trans hk)
  refine ⟨h1,h2,h3,h4,⟨h5,h6⟩,fun o => ?_,?_,fun o => ?_⟩
  ·
   rw [((((Kept.refl _).alloc _).alloc _).trans hk).frozens (w.heap.size + 1) o (by simp),(((((Kept.refl _).alloc _).alloc _).alloc _).trans hk).frozens (w.heap.size) o (by simp)]; exact ⟨World.frozen?_alloc_at _ _ _ _ (by simp),World.frozen?_alloc_at _ _ _ _ (by simp)⟩
  ·
   constructor <;> (rw [hk.cells _ _ (by simp),World.cell?_alloc_at _ _ _ _ (by simp)]; rfl)
  ·
   rw [hk.frozens (w.heap.size + 1 + 1 + 1) o (by simp)]; exact World.frozen?_alloc_at _ _ _ _ (by simp)
 go_enter Tryz.func129,Tryz.ntmps129
 go_wp2_with fail
 have HKW:Hid (Kept w ((((w.alloc (.cells #[.bool m,.slice aoa ka ca] 27)).alloc (.cells #[.bool n,.slice aob kb' cb] 27)).alloc (.cells #[.bool false,.slice aod kd cd] 27)).alloc (.cells #[.bool false,.slice none 0 0] 27))):=K4 _ _ _ _
 clear K4
 go_region_held3 (fun w' => w'.cell? ⟨w.heap.size,0,none⟩ = some (.bool m)/\w'.cell? ⟨w.heap.size,1,none⟩ = some (.slice aoa ka ca)/\w'.cell? ⟨w.heap.size + 1,0,none⟩ = some (.bool n)/\w'.cell? ⟨w.heap.size + 1,1,none⟩ = some (.slice aob kb' cb)) (go_keep) (first
  | (go_at_call_of 59 (Value.slice aoa ka ca); refine (sign_any m aoa ka ca a _ (HA.out.1.kept (HKW.out.trans (Kept.refl _).drew)) HR.out.1).mono ?_; rintro e w1 ⟨rfl,hk1⟩; rw [<- HN.out.1]; have HK1:=HK4.out _ ((Kept.refl _).drew.trans hk1); obtain ⟨hA0,hA1,hB0,hB1,-,-,-,-⟩:=HK1)
  | (go_at_call_of 59 (Value.slice aob kb' cb); refine (sign_any n aob kb' cb b _ (HA.out.2.1.kept (HKW.out.trans ((Kept.refl _).drew.trans hk1))) HR.out.2.1).mono ?_; rintro e w2 ⟨rfl,hk2⟩; rw [<- HN.out.2]; obtain ⟨hA0',hA1',hB0',hB1',⟨hD0,hD1⟩,hfb,⟨hC0,hC1⟩,hf⟩:=HK4.out _ (((Kept.refl _).drew.trans hk1).trans hk2)))
 have hK2:=((HKW.out.drew.trans hk1).trans hk2)
 have hz2:=hk2.size
 have hz1:=hk1.size
 simp [World.drew] at hz1
 have HS:Hid (∀ V,KeptK kb w2 V->V.cell? ⟨w.heap.size,0,none⟩ = some (.bool m)/\V.cell? ⟨w.heap.size,1,none⟩ = some (.slice aoa ka ca)/\V.cell? ⟨w.heap.size + 1,0,none⟩ = some (.bool n)/\V.cell? ⟨w.heap.size + 1,1,none⟩ = some (.slice aob kb' cb)/\V.cell? ⟨w.heap.size + 1 + 1,0,none⟩ = some (.bool false)/\V.cell? ⟨w.heap.size + 1 + 1,1,none⟩ = some (.slice aod kd cd)/\V.cell? ⟨w.heap.size + 1 + 1 + 1,0,none⟩ = some (.bool false)/\V.cell? ⟨w.heap.size + 1 + 1 + 1,1,none⟩ = some (.slice none 0 0)/\(∀ o,V.frozen? ⟨w.heap.size,o,none⟩ = false/\V.frozen? ⟨w.heap.size + 1,o,none⟩ = false)/\(∀ o,V.frozen? ⟨w.heap.size + 1 + 1 + 1,o,none⟩ = false)):=by
  intro V hV
  refine ⟨cell_keptK hV (by omega) hA0',cell_keptK hV (by omega) hA1',cell_keptK hV (by omega) hB0',cell_keptK hV (by omega) hB1',cell_keptK hV (by omega) hD0,cell_keptK hV (by omega) hD1,cell_keptK hV (by omega) hC0,cell_keptK hV (by omega) hC1,fun o => ?_,fun o => ?_⟩
  ·
   rw [frozen_keptK hV (by omega) (by omega),frozen_keptK hV (by omega) (by omega)]; exact hfb o
  ·
   rw [frozen_keptK hV (by omega) (by omega)]; exact hf o
 have HH:Hid (Kept w w2/\w.heap.size + 1 + 1 + 1 < w2.heap.size):=⟨hK2,by omega⟩
 have HL:Hid (∀ V,Kept w2 V->Sl V (.slice aob kb' cb) b/\Sl V (.slice aod kd cd) d/\Flag V kb x):=fun V hV => ⟨HA.out.2.1.kept (HH.out.1.trans hV),HA.out.2.2.2.kept (HH.out.1.trans hV),HA.out.2.2.1.kept (HH.out.1.trans hV)⟩
 clear hk1 hk2 hA0 hA1 hB0 hB1 HKW HK4 hK2 hC0 hC1 hf hz1 hz2 hfb
 go_upto_region 2 with fail
 go_cut [15] (fun s15 wc => s15 = .pointer (some ⟨kb,0,none⟩)/\∃ (s1:Bool) (ao1:Option Addr) (k1 cap1:Nat),wc.cell? ⟨w.heap.size,0,none⟩ = some (.bool m)/\wc.cell? ⟨w.heap.size,1,none⟩ = some (.slice aoa ka ca)/\wc.cell? ⟨w.heap.size + 1,0,none⟩ = some (.bool s1)/\wc.cell? ⟨w.heap.size + 1,1,none⟩ = some (.slice ao1 k1 cap1)/\wc.cell? ⟨w.heap.size + 1 + 1,0,none⟩ = some (.bool false)/\wc.cell? ⟨w.heap.size + 1 + 1,1,none⟩ = some (.slice aod kd cd)/\Hid (KeptK kb w wc/\(wc.cell? ⟨w.heap.size + 1 + 1 + 1,0,none⟩ = some (.bool false)/\wc.cell? ⟨w.heap.size + 1 + 1 + 1,1,none⟩ = some (.slice none 0 0))/\(∀ o,wc.frozen? ⟨w.heap.size,o,none⟩ = false/\wc.frozen? ⟨w.heap.size + 1 + 1 + 1,o,none⟩ = false)/\w.heap.size + 1 + 1 + 1 < wc.heap.size/\∃ x1 l1,Flag wc kb x1/\New w2.heap.size wc (.slice ao1 k1 cap1) l1/\M.Right s1 l1/\(x1 = false->x = false/\M.int s1 l1 = M.int n b + M.int nd d)/\(x = false->(M.int n b + M.int nd d).natAbs < M.W72->x1 = false)))
 case first =>
  go_region_with (first
   | (go_at_call 103; refine (signed_r m false aod kd cd _).mono ?_; rw [hnd]; rintro e w3 ⟨rfl,hk3⟩; obtain ⟨hA0,hA1,hB0,hB1,hD0',hD1',-,-,-,-⟩:=HS.out _ (KeptK.of ((Kept.refl _).drew.trans hk3)))
   | (go_at_call 128; refine (add_r kb x n nd (.slice aob kb' cb) (.slice aod kd cd) b d _ (HL.out _ ((Kept.refl _).drew.trans hk3)).2.2 (HL.out _ ((Kept.refl _).drew.trans hk3)).1 (HL.out _ ((Kept.refl _).drew.trans hk3)).2.1 HR.out.2.1 HR.out.2.2.2).mono ?_; rintro e w4 ⟨hkk,x1,s1,ao1,k1,cap1,l1,rfl,hfl1,hn1,hri1,hex1,hst1⟩; obtain ⟨hA04,hA14,hB04,hB14,hD04,hD14,hC04,hC14,hfb4,hf4⟩:=HS.out _ ((KeptK.of ((Kept.refl _).drew.trans hk3)).trans hkk)))
  all_goals
   have hkA:KeptK kb w w4:=(KeptK.of (HH.out.1.drew.trans hk3)).trans hkk
   have hz3:=hk3.size
   simp only [World.drew] at hz3
   have hz4:=hkk.size
   have hz:=HH.out.2
   have e8:=set2_at (x:=.bool s1) (y:=.slice ao1 k1 cap1) hB04 hB14
   obtain ⟨W5,HW5⟩:∃ W5,Hid (W5 = (w4.setCell ⟨w.heap.size + 1,0,none⟩ (.bool s1)).setCell ⟨w.heap.size + 1,1,none⟩ (.slice ao1 k1 cap1)):=⟨_,rfl⟩
   have HT:Hid (∃ (s1:Bool) (ao1:Option Addr) (k1 cap1:Nat),W5.cell? ⟨w.heap.size,0,none⟩ = some (.bool m)/\W5.cell? ⟨w.heap.size,1,none⟩ = some (.slice aoa ka ca)/\W5.cell? ⟨w.heap.size + 1,0,none⟩ = some (.bool s1)/\W5.cell? ⟨w.heap.size + 1,1,none⟩ = some (.slice ao1 k1 cap1)/\W5.cell? ⟨w.heap.size + 1 + 1,0,none⟩ = some (.bool false)/\W5.cell? ⟨w.heap.size + 1 + 1,1,none⟩ = some (.slice aod kd cd)/\Hid (KeptK kb w W5/\(W5.cell? ⟨w.heap.size + 1 + 1 + 1,0,none⟩ = some (.bool false)/\W5.cell? ⟨w.heap.size + 1 + 1 + 1,1,none⟩ = some (.slice none 0 0))/\(∀ o,W5.frozen? ⟨w.heap.size,o,none⟩ = false/\W5.frozen? ⟨w.heap.size + 1 + 1 + 1,o,none⟩ = false)/\w.heap.size + 1 + 1 + 1 < W5.heap.size/\∃ x1 l1,Flag W5 kb x1/\New w2.heap.size W5 (.slice ao1 k1 cap1) l1/\M.Right s1 l1/\(x1 = false->x = false/\M.int s1 l1 = M.int n b + M.int nd d)/\(x = false->(M.int n b + M.int nd d).natAbs < M.W72->x1 = false))):=by
    rw [HW5.out]
    refine ⟨s1,ao1,k1,cap1,set2_far (p:=w.heap.size + 1) hA04 (by omega),set2_far (p:=w.heap.size + 1) hA14 (by omega),e8.1,e8.2,set2_far (p:=w.heap.size + 1) hD04 (by omega),set2_far (p:=w.heap.size + 1) hD14 (by omega),?_⟩
    refine ⟨(hkA.setNew (by show w.heap.size<=w.heap.size + 1; omega) _).setNew (by show w.heap.size<=w.heap.size + 1; omega) _,⟨set2_far (p:=w.heap.size + 1) hC04 (by omega),set2_far (p:=w.heap.size + 1) hC14 (by omega)⟩,fun o => by simp only [World.frozen?_setCell]; exact ⟨(hfb4 o).1,hf4 o⟩,by simp; omega,x1,l1,(hfl1.other (by show kb ≠ w.heap.size + 1; omega) _).other (by show kb ≠ w.heap.size + 1; omega) _,((hn1.other (by show w.heap.size + 1 < _; omega) _).other (by show w.heap.size + 1 < _; omega) _).mono (by omega),hri1,hex1,hst1⟩
   clear hkA hz3 hz4 hz e8 hkk hk3 hfl1 hn1 hri1 hex1 hst1 hA04 hA14 hB04 hB14 hD04 hD14 hC04 hC14 hfb4 hf4 hA0 hA1 hB0 hB1 hD0' hD1' HS HL HH
   go_wp2_with fail
   go_meet
   case rel => exact ⟨rfl,by have h:=HT.out; rw [HW5.out] at h; exact h⟩
 case rest =>
  obtain ⟨rfl,s1,ao1,k1,cap1,hA0,hA1,hP0,hP1,hE0,hE1,HC⟩:=hcut
  clear hA0' hA1' hB0' hB1' hD0 hD1 HS HL
  obtain ⟨x1,l1,HX⟩:∃ x1 l1,Hid (Flag wc kb x1/\New w2.heap.size wc (.slice ao1 k1 cap1) l1/\M.Right s1 l1/\(x1 = false->x = false/\M.int s1 l1 = M.int n b + M.int nd d)/\(x = false->(M.int n b + M.int nd d).natAbs < M.W72->x1 = false)):=HC.out.2.2.2.2
  have HS:Hid (∀ V,KeptK kb wc V->V.cell? ⟨w.heap.size,0,none⟩ = some (.bool m)/\V.cell? ⟨w.heap.size,1,none⟩ = some (.slice aoa ka ca)/\V.cell? ⟨w.heap.size + 1,0,none⟩ = some (.bool s1)/\V.cell? ⟨w.heap.size + 1,1,none⟩ = some (.slice ao1 k1 cap1)/\V.cell? ⟨w.heap.size + 1 + 1,0,none⟩ = some (.bool false)/\V.cell? ⟨w.heap.size + 1 + 1,1,none⟩ = some (.slice aod kd cd)/\V.cell? ⟨w.heap.size + 1 + 1 + 1,0,none⟩ = some (.bool false)/\V.cell? ⟨w.heap.size + 1 + 1 + 1,1,none⟩ = some (.slice none 0 0)/\(∀ o,V.frozen? ⟨w.heap.size,o,none⟩ = false)/\(∀ o,V.frozen? ⟨w.heap.size + 1 + 1 + 1,o,none⟩ = false)):=by
   intro V hV
   have C:=HC.out
   have hz:=C.2.2.2.1
   refine ⟨cell_keptK hV (by omega) hA0,cell_keptK hV (by omega) hA1,cell_keptK hV (by omega) hP0,cell_keptK hV (by omega) hP1,cell_keptK hV (by omega) hE0,cell_keptK hV (by omega) hE1,cell_keptK hV (by omega) C.2.1.1,cell_keptK hV (by omega) C.2.1.2,fun o => ?_,fun o => ?_⟩
   ·
    rw [frozen_keptK hV (by omega) (by omega)]; exact (C.2.2.1 o).1
   ·
    rw [frozen_keptK hV (by omega) (by omega)]; exact (C.2.2.1 o).2
  have HB:Hid (-1<=sa/\sa<=1):=by show _/\_; rw [HN.out.1]; exact sgn_small _
  go_upto_region 3 with fail
  go_cut [22] (fun s22 wd => s22 = .pointer (some ⟨kb,0,none⟩)/\∃ (s2:Bool) (ao2:Option Addr) (k2 cap2:Nat),wd.cell? ⟨w.heap.size,0,none⟩ = some (.bool s2)/\wd.cell? ⟨w.heap.size,1,none⟩ = some (.slice ao2 k2 cap2)/\wd.cell? ⟨w.heap.size + 1,0,none⟩ = some (.bool s1)/\wd.cell? ⟨w.heap.size + 1,1,none⟩ = some (.slice ao1 k1 cap1)/\wd.cell? ⟨w.heap.size + 1 + 1,0,none⟩ = some (.bool false)/\wd.cell? ⟨w.heap.size + 1 + 1,1,none⟩ = some (.slice aod kd cd)/\Hid (KeptK kb w wd/\(wd.cell? ⟨w.heap.size + 1 + 1 + 1,0,none⟩ = some (.bool false)/\wd.cell? ⟨w.heap.size + 1 + 1 + 1,1,none⟩ = some (.slice none 0 0))/\(∀ o,wd.frozen? ⟨w.heap.size + 1 + 1 + 1,o,none⟩ = false)/\w.heap.size + 1 + 1 + 1 < wd.heap.size/\∃ x2 l1 l2,Flag wd kb x2/\Sl wd (.slice ao1 k1 cap1) l1/\M.Right s1 l1/\Sl wd (.slice ao2 k2 cap2) l2/\M.Right s2 l2/\(x2 = false->x = false/\M.int s1 l1 = M.int n b + M.int nd d/\M.int s2 l2 = M.int m a - isgn (M.int m a) 0)/\(x = false->(M.int n b + M.int nd d).natAbs < M.W72->(M.int m a - isgn (M.int m a) 0).natAbs < M.W72->x2 = false)))
  case first =>
   go_region_with (first
    | (go_at_call 59; refine (sign_any m aoa ka ca a _ (Sl.keptK HA.out.2.2.1 HA.out.1 (HC.out.1.then (Kept.refl _).drew)) HR.out.1).mono ?_; rintro e w3 ⟨rfl,hk3⟩; rw [<- HN.out.1]; obtain ⟨hA03,hA13,hB03,hB13,hD03,hD13,-,-,-,-⟩:=HS.out _ (KeptK.of ((Kept.refl _).drew.trans hk3)))
    | (go_at_call 29; refine (of_any sa _ (by have:=HB.out; omega) (by have:=HB.out; omega)).mono ?_; rintro e w4 ⟨hk4,so,aoo,ko,co,lo,rfl,hno,hro,hio⟩; obtain ⟨hA04,hA14,hB04,hB14,hD04,hD14,-,-,-,-⟩:=HS.out _ (KeptK.of (((Kept.refl _).drew.trans hk3).trans hk4)))
    | (go_at_call 147; refine (sub_r kb x1 m so (.slice aoa ka ca) (.slice aoo ko co) a lo _ (HX.out.1.kept (((Kept.refl _).drew.trans hk3).trans hk4)) (Sl.keptK HA.out.2.2.1 HA.out.1 (HC.out.1.then (((Kept.refl _).drew.trans hk3).trans hk4))) hno.sl HR.out.1 (R.of_right hro)).mono ?_; rintro e w5 ⟨hkk,x2,s2,ao2,k2,cap2,l2,rfl,hfl2,hn2,hri2,hex2,hst2⟩; obtain ⟨hA05,hA15,hB05,hB15,hD05,hD15,hC05,hC15,hfa5,hf5⟩:=HS.out _ ((KeptK.of (((Kept.refl _).drew.trans hk3).trans hk4)).trans hkk)))
   all_goals
    have hkA:KeptK kb w w5:=(HC.out.1.then (((Kept.refl _).drew.trans hk3).trans hk4)).trans hkk
    have hkC:KeptK kb wc w5:=(KeptK.of (((Kept.refl _).drew.trans hk3).trans hk4)).trans hkk
    have hz3:=hkC.size
    have hz4:=(((Kept.refl _).drew.trans hk3).trans hk4).size
    have hz:=HC.out.2.2.2.1
    have e8:=set2_at (x:=.bool s2) (y:=.slice ao2 k2 cap2) hA05 hA15
    obtain ⟨W6,HW6⟩:∃ W6,Hid (W6 = (w5.setCell ⟨w.heap.size,0,none⟩ (.bool s2)).setCell ⟨w.heap.size,1,none⟩ (.slice ao2 k2 cap2)):=⟨_,rfl⟩
    have HT:Hid (∃ (s2:Bool) (ao2:Option Addr) (k2 cap2:Nat),W6.cell? ⟨w.heap.size,0,none⟩ = some (.bool s2)/\W6.cell? ⟨w.heap.size,1,none⟩ = some (.slice ao2 k2 cap2)/\W6.cell? ⟨w.heap.size + 1,0,none⟩ = some (.bool s1)/\W6.cell? ⟨w.heap.size + 1,1,none⟩ = some (.slice ao1 k1 cap1)/\W6.cell? ⟨w.heap.size + 1 + 1,0,none⟩ = some (.bool false)/\W6.cell? ⟨w.heap.size + 1 + 1,1,none⟩ = some (.slice aod kd cd)/\Hid (KeptK kb w W6/\(W6.cell? ⟨w.heap.size + 1 + 1 + 1,0,none⟩ = some (.bool false)/\W6.cell? ⟨w.heap.size + 1 + 1 + 1,1,none⟩ = some (.slice none 0 0))/\(∀ o,W6.frozen? ⟨w.heap.size + 1 + 1 + 1,o,none⟩ = false)/\w.heap.size + 1 + 1 + 1 < W6.heap.size/\∃ x2 l1 l2,Flag W6 kb x2/\Sl W6 (.slice ao1 k1 cap1) l1/\M.Right s1 l1/\Sl W6 (.slice ao2 k2 cap2) l2/\M.Right s2 l2/\(x2 = false->x = false/\M.int s1 l1 = M.int n b + M.int nd d/\M.int s2 l2 = M.int m a - isgn (M.int m a) 0)/\(x = false->(M.int n b + M.int nd d).natAbs < M.W72->(M.int m a - isgn (M.int m a) 0).natAbs < M.W72->x2 = false))):=by
     rw [HW6.out]
     refine ⟨s2,ao2,k2,cap2,e8.1,e8.2,set2_far (p:=w.heap.size) hB05 (by omega),set2_far (p:=w.heap.size) hB15 (by omega),set2_far (p:=w.heap.size) hD05 (by omega),set2_far (p:=w.heap.size) hD15 (by omega),?_⟩
     obtain ⟨g1,g2,g3,g4,g5⟩:=HX.out
     refine ⟨(hkA.setNew (by show w.heap.size<=w.heap.size; omega) _).setNew (by show w.heap.size<=w.heap.size; omega) _,⟨set2_far (p:=w.heap.size) hC05 (by omega),set2_far (p:=w.heap.size) hC15 (by omega)⟩,fun o => by simp only [World.frozen?_setCell]; exact hf5 o,by simp; omega,x2,l1,l2,(hfl2.other (by show kb ≠ w.heap.size; omega) _).other (by show kb ≠ w.heap.size; omega) _,?_,g3,?_,hri2,fun h => ?_,fun h h1 h2 => ?_⟩
     ·
      exact (((New.keptK g1 g2 hkC).other (by show w.heap.size < _; have:=HH.out.2; omega) _).other (by show w.heap.size < _; have:=HH.out.2; omega) _).sl
     ·
      exact ((hn2.other (by show w.heap.size < _; omega) _).other (by show w.heap.size < _; omega) _).sl
     ·
      have:=hex2 h
      exact ⟨(g4 this.1).1,(g4 this.1).2,by rw [this.2,hio,HN.out.1]⟩
     ·
      exact hst2 (g5 h h1) (by rw [hio,HN.out.1]; exact h2)
    clear hkA hkC hz3 hz4 hz e8 hkk hk3 hk4 hfl2 hn2 hri2 hex2 hst2 hno hro hio hA03 hA13 hB03 hB13 hD03 hD13 hA04 hA14 hB04 hB14 hD04 hD14 hA05 hA15 hB05 hB15 hD05 hD15 hC05 hC15 hfa5 hf5 HS HH HX HC
    go_wp2_with fail
    go_meet
    case rel => exact ⟨rfl,by have h:=HT.out; rw [HW6.out] at h; exact h⟩
  case rest =>
   obtain ⟨rfl,s2,ao2,k2,cap2,hF0,hF1,hG0,hG1,hI0,hI1,HC2⟩:=hcut
   clear hA0 hA1 hP0 hP1 hE0 hE1 HS HX HC HB
   obtain ⟨x2,l3,l2,HX⟩:∃ x2 l1 l2,Hid (Flag wc kb x2/\Sl wc (.slice ao1 k1 cap1) l1/\M.Right s1 l1/\Sl wc (.slice ao2 k2 cap2) l2/\M.Right s2 l2/\(x2 = false->x = false/\M.int s1 l1 = M.int n b + M.int nd d/\M.int s2 l2 = M.int m a - isgn (M.int m a) 0)/\(x = false->(M.int n b + M.int nd d).natAbs < M.W72->(M.int m a - isgn (M.int m a) 0).natAbs < M.W72->x2 = false)):=HC2.out.2.2.2.2
   have HS:Hid (∀ V,KeptK kb wc V->V.cell? ⟨w.heap.size,0,none⟩ = some (.bool s2)/\V.cell? ⟨w.heap.size,1,none⟩ = some (.slice ao2 k2 cap2)/\V.cell? ⟨w.heap.size + 1,0,none⟩ = some (.bool s1)/\V.cell? ⟨w.heap.size + 1,1,none⟩ = some (.slice ao1 k1 cap1)/\V.cell? ⟨w.heap.size + 1 + 1,0,none⟩ = some (.bool false)/\V.cell? ⟨w.heap.size + 1 + 1,1,none⟩ = some (.slice aod kd cd)/\V.cell? ⟨w.heap.size + 1 + 1 + 1,0,none⟩ = some (.bool false)/\V.cell? ⟨w.heap.size + 1 + 1 + 1,1,none⟩ = some (.slice none 0 0)/\(∀ o,V.frozen? ⟨w.heap.size + 1 + 1 + 1,o,none⟩ = false)):=by
    intro V hV
    have C:=HC2.out
    have hz:=C.2.2.2.1
    refine ⟨cell_keptK hV (by omega) hF0,cell_keptK hV (by omega) hF1,cell_keptK hV (by omega) hG0,cell_keptK hV (by omega) hG1,cell_keptK hV (by omega) hI0,cell_keptK hV (by omega) hI1,cell_keptK hV (by omega) C.2.1.1,cell_keptK hV (by omega) C.2.1.2,fun o => ?_⟩
    rw [frozen_keptK hV (by omega) (by omega)]; exact C.2.2.1 o
   have hne1:¬ (w.heap.size + 1 + 1 + 1 = w.heap.size):=by omega
   have hne2:¬ (w.heap.size + 1 + 1 = w.heap.size):=by omega
   go_wp2_with fail
   go_region_held3 (fun w' => w'.cell? ⟨w.heap.size,0,none⟩ = some (.bool s2)/\w'.cell? ⟨w.heap.size,1,none⟩ = some (.slice ao2 k2 cap2)/\w'.cell? ⟨w.heap.size + 1,0,none⟩ = some (.bool s1)/\w'.cell? ⟨w.heap.size + 1,1,none⟩ = some (.slice ao1 k1 cap1)/\w'.cell? ⟨w.heap.size + 1 + 1,0,none⟩ = some (.bool false)/\w'.cell? ⟨w.heap.size + 1 + 1,1,none⟩ = some (.slice aod kd cd)) (go_keep) (first
    | (go_at_call 98; refine (mul_r kb x2 s2 false (.slice ao2 k2 cap2) (.slice aod kd cd) l2 d _ (HX.out.1.kept (Kept.refl _).drew) (HX.out.2.2.2.1.kept (Kept.refl _).drew) (Sl.keptK HA.out.2.2.1 HA.out.2.2.2 (HC2.out.1.then (Kept.refl _).drew)) (R.of_right HX.out.2.2.2.2.1) HR.out.2.2.1).mono ?_; rintro e w6 ⟨hkk,x3,s3,ao3,k3,cap3,l4,rfl,hfl3,hn3,hri3,hex3,hst3⟩; obtain ⟨hA03,hA13,hB03,hB13,hD03,hD13,-,-,-⟩:=HS.out _ ((KeptK.of (Kept.refl _).drew).trans hkk))
    | (go_at_call 128; refine (add_r kb x3 s3 s1 (.slice ao3 k3 cap3) (.slice ao1 k1 cap1) l4 l3 _ hfl3 hn3.sl (Sl.keptK (HX.out.1.kept (Kept.refl _).drew) (HX.out.2.1.kept (Kept.refl _).drew) hkk) (R.of_right hri3) (R.of_right HX.out.2.2.1)).mono ?_; rintro e w7 ⟨hkk4,x',s,ao,k,cap,l,rfl,hfl,hn,hri,hex,hst⟩; obtain ⟨hA04,hA14,hB04,hB14,hD04,hD14,hC04,hC14,hf4⟩:=HS.out _ (((KeptK.of (Kept.refl _).drew).trans hkk).trans hkk4)))
   have hz3:=hkk.size
   simp only [World.drew] at hz3
   have hz4:=hkk4.size
   have hz:=HC2.out.2.2.2.1
   have hkA:KeptK kb w w7:=((HC2.out.1.then (Kept.refl _).drew).trans hkk).trans hkk4
   have HQ:Hid (KeptK kb w w7/\Flag w7 kb x'/\New w6.heap.size w7 (.slice ao k cap) l/\M.Right s l/\(x' = false->x3 = false/\M.int s l = M.int s3 l4 + M.int s1 l3)/\(x3 = false->(M.int s3 l4 + M.int s1 l3).natAbs < M.W72->x' = false)/\(x3 = false->x2 = false/\M.int s3 l4 = M.int s2 l2 * M.int false d)/\(x2 = false->(M.int s2 l2 * M.int false d).natAbs < M.W72->x3 = false)/\w.heap.size + 1 + 1 + 1 < w6.heap.size):=⟨hkA,hfl,hn,hri,hex,hst,hex3,hst3,by omega⟩
   clear hkA hfl hn hri hex hst hex3 hst3 hkk hkk4 hz3 hz4 hz hri3 hn3 hfl3 HS HC2 hA03 hA13 hB03 hB13 hD03 hD13 hA04 hA14 hB04 hB14 hD04 hD14 hF0 hF1 hG0 hG1 hI0 hI1
   go_wp2
   obtain ⟨q1,q2,q3,q4,q5,q6,p5,p6,hz⟩:=HQ.out
   obtain ⟨-,-,-,-,-,r5,r6⟩:=HX.out
   refine bodyPost_ret (v:=.agg #[.bool s,.slice ao k cap]) (by simp [results,Tryz.results129,go_sem,hC04,hC14]) rfl ⟨?_,x',s,ao,k,cap,l,rfl,?_,?_,q4,fun h => ?_,fun h h' => ?_⟩
   ·
    exact (q1.setNew (by show w.heap.size<=w.heap.size + 1 + 1 + 1; omega) _).setNew (by show w.heap.size<=w.heap.size + 1 + 1 + 1; omega) _
   ·
    exact (q2.other (by show kb ≠ w.heap.size + 1 + 1 + 1; omega) _).other (by show kb ≠ w.heap.size + 1 + 1 + 1; omega) _
   ·
    exact ((q3.other (by show w.heap.size + 1 + 1 + 1 < w6.heap.size; omega) _).other (by show w.heap.size + 1 + 1 + 1 < w6.heap.size; omega) _).mono (by omega)
   ·
    have h1:=q5 h
    have h2:=p5 h1.1
    have h3:=r5 h2.1
    exact ⟨h3.1,by rw [h1.2,h2.2,h3.2.2,h3.2.1]⟩
   ·
    have h1:=r6 h h'.1 h'.2.1
    have h2:=r5 h1
    have h3:=p6 h1 (by rw [h2.2.2]; exact h'.2.2.1)
    exact q6 h3 (by rw [(p5 h3).2,h2.2.2,h2.2.1]; exact h'.2.2.2)
end F
end Go.Proofs.YthfbfbfambbkaaaGreatDoor
