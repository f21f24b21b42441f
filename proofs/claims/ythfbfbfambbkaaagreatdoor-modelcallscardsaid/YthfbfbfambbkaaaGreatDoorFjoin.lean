/- A reckoning's join: whole times den, plus part. -/
import Derived.Test.YthfbfbfambbkaaaGreatDoorFadd
import Derived.Test.YthfbfbfambbkaaaGreatDoorGal
namespace Go.Proofs.YthfbfbfambbkaaaGreatDoor
open Go.RowKit
namespace F
set_option maxHeartbeats 4000000 in
theorem join_no (kb:Nat) (x m n:Bool) (aoa aob aod:Option Addr) (ka ca kb' cb kd cd:Nat) (a b d:List Nat) (w:World) (hF:Flag w kb x) (ha:Sl w (.slice aoa ka ca) a) (hb:Sl w (.slice aob kb' cb) b) (hd:Sl w (.slice aod kd cd) d) (hra:R m a) (hrb:R n b) (hrd:R false d)
  (hs:¬ isgn (M.int m a) 0 * isgn (M.int n b) 0 < 0) :
  Calls Tryz.prog 129 #[.pointer (some ⟨kb,0,none⟩),.agg #[.bool m,.slice aoa ka ca],.agg #[.bool n,.slice aob kb' cb],.agg #[.bool false,.slice aod kd cd]] w fun e w' => KeptK kb w w'/\RecP kb w.heap.size x w' e ((M.int m a * M.int false d).natAbs < M.W72/\(M.int m a * M.int false d + M.int n b).natAbs < M.W72) (M.int m a * M.int false d + M.int n b):=by
 have HW:=sgn_wrap (M.int m a) (M.int n b)
 have HR:Hid (R m a/\R n b/\R false d):=⟨hra,hrb,hrd⟩
 have HA:Hid (Sl w (.slice aoa ka ca) a/\Sl w (.slice aob kb' cb) b/\Flag w kb x/\Sl w (.slice aod kd cd) d):=⟨ha,hb,hF,hd⟩
 have hlt:=hF.lt
 obtain ⟨sa,hsa⟩:∃ sa,sa = isgn (M.int m a) 0:=⟨_,rfl⟩
 obtain ⟨sb,hsb⟩:∃ sb,sb = isgn (M.int n b) 0:=⟨_,rfl⟩
 rw [<- hsa,<- hsb] at HW hs
 have HN:Hid (sa = isgn (M.int m a) 0/\sb = isgn (M.int n b) 0):=⟨hsa,hsb⟩
 clear hra hrb hrd ha hb hd hF hsa hsb
 have K4:∀ x y t u,Kept w ((((w.alloc x).alloc y).alloc t).alloc u):=fun x y t u => ((((Kept.refl w).alloc x).alloc y).alloc t).alloc u
 have HK4:Hid (∀ W,Kept ((((w.alloc (.cells #[.bool m,.slice aoa ka ca] 27)).alloc (.cells #[.bool n,.slice aob kb' cb] 27)).alloc (.cells #[.bool false,.slice aod kd cd] 27)).alloc (.cells #[.bool false,.slice none 0 0] 27)) W->W.cell? ⟨w.heap.size,0,none⟩ = some (.bool m)/\W.cell? ⟨w.heap.size,1,none⟩ = some (.slice aoa ka ca)/\W.cell? ⟨w.heap.size + 1,0,none⟩ = some (.bool n)/\W.cell? ⟨w.heap.size + 1,1,none⟩ = some (.slice aob kb' cb)/\(W.cell? ⟨w.heap.size + 1 + 1,0,none⟩ = some (.bool false)/\W.cell? ⟨w.heap.size + 1 + 1,1,none⟩ = some (.slice aod kd cd))/\(∀ o,W.frozen? ⟨w.heap.size + 1,o,none⟩ = false)/\(W.cell? ⟨w.heap.size + 1 + 1 + 1,0,none⟩ = some (.bool false)/\W.cell? ⟨w.heap.size + 1 + 1 + 1,1,none⟩ = some (.slice none 0 0))/\∀ o,W.frozen? ⟨w.heap.size + 1 + 1 + 1,o,none⟩ = false):=fun W hk => by
  obtain ⟨h1,h2,h3,h4,h5,h6⟩:=box_kept3 (((Kept.refl _).alloc _).trans hk)
  refine ⟨h1,h2,h3,h4,⟨h5,h6⟩,fun o => ?_,?_,fun o => ?_⟩
  ·
   rw [((((Kept.refl _).alloc _).alloc _).trans hk).frozens (w.heap.size + 1) o (by simp)]; exact World.frozen?_alloc_at _ _ _ _ (by simp)
  ·
   constructor <;> (rw [hk.cells _ _ (by simp),World.cell?_alloc_at _ _ _ _ (by simp)]; rfl)
  ·
   rw [hk.frozens (w.heap.size + 1 + 1 + 1) o (by simp)]; exact World.frozen?_alloc_at _ _ _ _ (by simp)
 go_enter Tryz.func129,Tryz.ntmps129
 go_wp2_with fail
 have HKW:Hid (Kept w ((((w.alloc (.cells #[.bool m,.slice aoa ka ca] 27)).alloc (.cells #[.bool n,.slice aob kb' cb] 27)).alloc (.cells #[.bool false,.slice aod kd cd] 27)).alloc (.cells #[.bool false,.slice none 0 0] 27))):=K4 _ _ _ _
 clear K4
 go_region_held3 (fun w' => w'.cell? ⟨w.heap.size,0,none⟩ = some (.bool m)/\w'.cell? ⟨w.heap.size,1,none⟩ = some (.slice aoa ka ca)/\w'.cell? ⟨w.heap.size + 1,0,none⟩ = some (.bool n)/\w'.cell? ⟨w.heap.size + 1,1,none⟩ = some (.slice aob kb' cb)) (go_keep) (first
  | (go_at_call_of 59 (Value.slice aoa ka ca); refine (sign_any m aoa ka ca a _ (HA.out.1.kept (HKW.out.trans (Kept.refl _).drew)) HR.out.1).mono ?_; rintro e w1 ⟨rfl,hk1⟩; rw [<- HN.out.1]; have HK1:=HK4.out _ ((Kept.refl _).drew.trans hk1); obtain ⟨hA0,hA1,hB0,hB1,-,-,-,-⟩:=HK1)
  | (go_at_call_of 59 (Value.slice aob kb' cb); refine (sign_any n aob kb' cb b _ (HA.out.2.1.kept (HKW.out.trans ((Kept.refl _).drew.trans hk1))) HR.out.2.1).mono ?_; rintro e w2 ⟨rfl,hk2⟩; rw [<- HN.out.2]; obtain ⟨hA0',hA1',hB0',hB1',⟨hD0,hD1⟩,hfb,⟨hC0,hC1⟩,hf⟩:=HK4.out _ (((Kept.refl _).drew.trans hk1).trans hk2)))
 have hK2:=((HKW.out.drew.trans hk1).trans hk2)
 have hz2:=hk2.size
 have hz1:=hk1.size
 simp [World.drew] at hz1
 have HS:Hid (∀ V,KeptK kb w2 V->V.cell? ⟨w.heap.size,0,none⟩ = some (.bool m)/\V.cell? ⟨w.heap.size,1,none⟩ = some (.slice aoa ka ca)/\V.cell? ⟨w.heap.size + 1,0,none⟩ = some (.bool n)/\V.cell? ⟨w.heap.size + 1,1,none⟩ = some (.slice aob kb' cb)/\V.cell? ⟨w.heap.size + 1 + 1,0,none⟩ = some (.bool false)/\V.cell? ⟨w.heap.size + 1 + 1,1,none⟩ = some (.slice aod kd cd)/\V.cell? ⟨w.heap.size + 1 + 1 + 1,0,none⟩ = some (.bool false)/\V.cell? ⟨w.heap.size + 1 + 1 + 1,1,none⟩ = some (.slice none 0 0)/\(∀ o,V.frozen? ⟨w.heap.size + 1,o,none⟩ = false)/\(∀ o,V.frozen? ⟨w.heap.size + 1 + 1 + 1,o,none⟩ = false)):=by
  intro V hV
  refine ⟨cell_keptK hV (by omega) hA0',cell_keptK hV (by omega) hA1',cell_keptK hV (by omega) hB0',cell_keptK hV (by omega) hB1',cell_keptK hV (by omega) hD0,cell_keptK hV (by omega) hD1,cell_keptK hV (by omega) hC0,cell_keptK hV (by omega) hC1,fun o => ?_,fun o => ?_⟩
  ·
   rw [frozen_keptK hV (by omega) (by omega)]; exact hfb o
  ·
   rw [frozen_keptK hV (by omega) (by omega)]; exact hf o
 have HH:Hid (Kept w w2/\w.heap.size + 1 + 1 + 1 < w2.heap.size):=⟨hK2,by omega⟩
 have HL:Hid (∀ V,Kept w2 V->Sl V (.slice aob kb' cb) b/\Sl V (.slice aod kd cd) d/\Flag V kb x):=fun V hV => ⟨HA.out.2.1.kept (HH.out.1.trans hV),HA.out.2.2.2.kept (HH.out.1.trans hV),HA.out.2.2.1.kept (HH.out.1.trans hV)⟩
 clear hk1 hk2 hA0 hA1 hB0 hB1 HKW HK4 hK2 hC0 hC1 hf hz1 hz2
 have hs0:¬ sa * sb < 0:=by omega
 have hne1:¬ (w.heap.size + 1 + 1 + 1 = w.heap.size):=by omega
 have hne2:¬ (w.heap.size + 1 + 1 = w.heap.size):=by omega
 clear hs
 go_wp2_with fail
 go_region_held3 (fun w' => w'.cell? ⟨w.heap.size,0,none⟩ = some (.bool m)/\w'.cell? ⟨w.heap.size,1,none⟩ = some (.slice aoa ka ca)/\w'.cell? ⟨w.heap.size + 1,0,none⟩ = some (.bool n)/\w'.cell? ⟨w.heap.size + 1,1,none⟩ = some (.slice aob kb' cb)/\w'.cell? ⟨w.heap.size + 1 + 1,0,none⟩ = some (.bool false)/\w'.cell? ⟨w.heap.size + 1 + 1,1,none⟩ = some (.slice aod kd cd)) (go_keep) (first
  | (go_at_call 98; refine (mul_r kb x m false (.slice aoa ka ca) (.slice aod kd cd) a d _ (HL.out _ (Kept.refl _).drew).2.2 (HA.out.1.kept (HH.out.1.trans (Kept.refl _).drew)) (HL.out _ (Kept.refl _).drew).2.1 HR.out.1 HR.out.2.2).mono ?_; rintro e w3 ⟨hkk,x1,s1,ao1,k1,cap1,l1,rfl,hfl1,hn1,hri1,hex1,hst1⟩; obtain ⟨hA03,hA13,hB03,hB13,hD03,hD13,-,-,-,-⟩:=HS.out _ ((KeptK.of (Kept.refl _).drew).trans hkk))
  | (go_at_call 128; refine (add_r kb x1 s1 n (.slice ao1 k1 cap1) (.slice aob kb' cb) l1 b _ hfl1 hn1.sl (Sl.keptK (HL.out _ (Kept.refl _).drew).2.2 (HL.out _ (Kept.refl _).drew).1 hkk) (R.of_right hri1) HR.out.2.1).mono ?_; rintro e w4 ⟨hkk4,x',s,ao,k,cap,l,rfl,hfl,hn,hri,hex,hst⟩; obtain ⟨hA04,hA14,hB04,hB14,hD04,hD14,hC04,hC14,-,hf4⟩:=HS.out _ (((KeptK.of (Kept.refl _).drew).trans hkk).trans hkk4)))
 have hz3:=hkk.size
 simp only [World.drew] at hz3
 have hz4:=hkk4.size
 have hz:=HH.out.2
 have hkA:KeptK kb w w4:=((KeptK.of HH.out.1.drew).trans hkk).trans hkk4
 have HQ:Hid (KeptK kb w w4/\Flag w4 kb x'/\New w3.heap.size w4 (.slice ao k cap) l/\M.Right s l/\(x' = false->x1 = false/\M.int s l = M.int s1 l1 + M.int n b)/\(x1 = false->(M.int s1 l1 + M.int n b).natAbs < M.W72->x' = false)/\(x1 = false->x = false/\M.int s1 l1 = M.int m a * M.int false d)/\(x = false->(M.int m a * M.int false d).natAbs < M.W72->x1 = false)/\w.heap.size + 1 + 1 + 1 < w3.heap.size):=⟨hkA,hfl,hn,hri,hex,hst,hex1,hst1,by omega⟩
 clear hkA hfl hn hri hex hst hex1 hst1 hkk hkk4 hz3 hz4 hz hri1 hn1 hfl1 HS HL HH hA03 hA13 hB03 hB13 hD03 hD13 hA04 hA14 hB04 hB14 hD04 hD14 hA0' hA1' hB0' hB1' hD0 hD1 hfb
 go_wp2
 obtain ⟨q1,q2,q3,q4,q5,q6,p5,p6,hz⟩:=HQ.out
 refine bodyPost_ret (v:=.agg #[.bool s,.slice ao k cap]) (by simp [results,Tryz.results129,go_sem,hC04,hC14]) rfl ⟨?_,x',s,ao,k,cap,l,rfl,?_,?_,q4,fun h => ?_,fun h h' => ?_⟩
 ·
  exact (q1.setNew (by show w.heap.size<=w.heap.size + 1 + 1 + 1; omega) _).setNew (by show w.heap.size<=w.heap.size + 1 + 1 + 1; omega) _
 ·
  exact (q2.other (by show kb ≠ w.heap.size + 1 + 1 + 1; omega) _).other (by show kb ≠ w.heap.size + 1 + 1 + 1; omega) _
 ·
  exact ((q3.other (by show w.heap.size + 1 + 1 + 1 < w3.heap.size; omega) _).other (by show w.heap.size + 1 + 1 + 1 < w3.heap.size; omega) _).mono (by omega)
 ·
  have h1:=q5 h
  have h2:=p5 h1.1
  exact ⟨h2.1,by rw [h1.2,h2.2]⟩
 ·
  have h1:=p6 h h'.1
  exact q6 h1 (by rw [(p5 h1).2]; exact h'.2)
end F
end Go.Proofs.YthfbfbfambbkaaaGreatDoor
