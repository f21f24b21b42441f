/- A reckoning's addModulo: a + b modulo d, b led to the other side of 0 where both are on one. -/
import Derived.Test.YthfbfbfambbkaaaGreatDoorGal
import Derived.Deep.RegionHeld3
namespace Go.Proofs.YthfbfbfambbkaaaGreatDoor
open Go.RowKit
namespace F
def RecP (kb B:Nat) (x:Bool) (w:World) (e:Ending) (fits:Prop) (v:Int):Prop :=
 ∃ x' s ao k cap l,e = .returned (.agg #[.bool s,.slice ao k cap])/\Flag w kb x'/\New B w (.slice ao k cap) l/\M.Right s l/\(x' = false->x = false/\M.int s l = v)/\(x = false->fits->x' = false)
theorem sgn_wrap (x y:Int):IntKind.i64.wrap (isgn x 0 * isgn y 0) = isgn x 0 * isgn y 0:=by
 have h1:isgn x 0 = -1 ∨ isgn x 0 = 0 ∨ isgn x 0 = 1:=by unfold isgn; split <;> (try split) <;> simp
 have h2:isgn y 0 = -1 ∨ isgn y 0 = 0 ∨ isgn y 0 = 1:=by unfold isgn; split <;> (try split) <;> simp
 rcases h1 with h | h | h <;> rcases h2 with h' | h' | h' <;> rw [h,h'] <;> rfl
set_option maxHeartbeats 4000000 in
theorem addModulo_no (kb:Nat) (x m n:Bool) (aoa aob aod:Option Addr) (ka ca kb' cb kd cd:Nat) (a b:List Nat) (w:World) (hF:Flag w kb x) (ha:Sl w (.slice aoa ka ca) a) (hb:Sl w (.slice aob kb' cb) b) (hra:R m a) (hrb:R n b)
  (hs:¬ 0 < isgn (M.int m a) 0 * isgn (M.int n b) 0) :
  Calls Tryz.prog 125 #[.pointer (some ⟨kb,0,none⟩),.agg #[.bool m,.slice aoa ka ca],.agg #[.bool n,.slice aob kb' cb],.agg #[.bool false,.slice aod kd cd]] w fun e w' => KeptK kb w w'/\RecP kb w.heap.size x w' e ((M.int m a + M.int n b).natAbs < M.W72) (M.int m a + M.int n b):=by
 have HW:=sgn_wrap (M.int m a) (M.int n b)
 have HR:Hid (R m a/\R n b):=⟨hra,hrb⟩
 have HA:Hid (Sl w (.slice aoa ka ca) a/\Sl w (.slice aob kb' cb) b/\Flag w kb x):=⟨ha,hb,hF⟩
 have hlt:=hF.lt
 obtain ⟨sa,hsa⟩:∃ sa,sa = isgn (M.int m a) 0:=⟨_,rfl⟩
 obtain ⟨sb,hsb⟩:∃ sb,sb = isgn (M.int n b) 0:=⟨_,rfl⟩
 rw [<- hsa,<- hsb] at HW hs
 have HN:Hid (sa = isgn (M.int m a) 0/\sb = isgn (M.int n b) 0):=⟨hsa,hsb⟩
 clear hra hrb ha hb hF hsa hsb
 have K4:∀ x y t u,Kept w ((((w.alloc x).alloc y).alloc t).alloc u):=fun x y t u => ((((Kept.refl w).alloc x).alloc y).alloc t).alloc u
 have HK4:Hid (∀ W,Kept ((((w.alloc (.cells #[.bool m,.slice aoa ka ca] 27)).alloc (.cells #[.bool n,.slice aob kb' cb] 27)).alloc (.cells #[.bool false,.slice aod kd cd] 27)).alloc (.cells #[.bool false,.slice none 0 0] 27)) W->W.cell? ⟨w.heap.size,0,none⟩ = some (.bool m)/\W.cell? ⟨w.heap.size,1,none⟩ = some (.slice aoa ka ca)/\W.cell? ⟨w.heap.size + 1,0,none⟩ = some (.bool n)/\W.cell? ⟨w.heap.size + 1,1,none⟩ = some (.slice aob kb' cb)/\(W.cell? ⟨w.heap.size + 1 + 1 + 1,0,none⟩ = some (.bool false)/\W.cell? ⟨w.heap.size + 1 + 1 + 1,1,none⟩ = some (.slice none 0 0))/\∀ o,W.frozen? ⟨w.heap.size + 1 + 1 + 1,o,none⟩ = false):=fun W hk => by
  obtain ⟨h1,h2,h3,h4,-,-⟩:=box_kept3 (((Kept.refl _).alloc _).trans hk)
  refine ⟨h1,h2,h3,h4,?_,fun o => ?_⟩
  ·
   constructor <;> (rw [hk.cells _ _ (by simp),World.cell?_alloc_at _ _ _ _ (by simp)]; rfl)
  ·
   rw [hk.frozens (w.heap.size + 1 + 1 + 1) o (by simp)]; exact World.frozen?_alloc_at _ _ _ _ (by simp)
 go_enter Tryz.func125,Tryz.ntmps125
 go_wp2_with fail
 have HKW:Hid (Kept w ((((w.alloc (.cells #[.bool m,.slice aoa ka ca] 27)).alloc (.cells #[.bool n,.slice aob kb' cb] 27)).alloc (.cells #[.bool false,.slice aod kd cd] 27)).alloc (.cells #[.bool false,.slice none 0 0] 27))):=K4 _ _ _ _
 clear K4
 go_region_held3 (fun w' => w'.cell? ⟨w.heap.size,0,none⟩ = some (.bool m)/\w'.cell? ⟨w.heap.size,1,none⟩ = some (.slice aoa ka ca)/\w'.cell? ⟨w.heap.size + 1,0,none⟩ = some (.bool n)/\w'.cell? ⟨w.heap.size + 1,1,none⟩ = some (.slice aob kb' cb)) (go_keep) (first
  | (go_at_call_of 59 (Value.slice aoa ka ca); refine (sign_any m aoa ka ca a _ (HA.out.1.kept (HKW.out.trans (Kept.refl _).drew)) HR.out.1).mono ?_; rintro e w1 ⟨rfl,hk1⟩; rw [<- HN.out.1]; have HK1:=HK4.out _ ((Kept.refl _).drew.trans hk1); obtain ⟨hA0,hA1,hB0,hB1,-,-⟩:=HK1)
  | (go_at_call_of 59 (Value.slice aob kb' cb); refine (sign_any n aob kb' cb b _ (HA.out.2.1.kept (HKW.out.trans ((Kept.refl _).drew.trans hk1))) HR.out.2).mono ?_; rintro e w2 ⟨rfl,hk2⟩; rw [<- HN.out.2]; obtain ⟨hA0',hA1',hB0',hB1',⟨hC0,hC1⟩,hf⟩:=HK4.out _ (((Kept.refl _).drew.trans hk1).trans hk2)))
 have hK2:=((HKW.out.drew.trans hk1).trans hk2)
 have hz2:=hk2.size
 have hz1:=hk1.size
 simp [World.drew] at hz1
 have HH:Hid (Kept w w2/\(w2.cell? ⟨w.heap.size + 1 + 1 + 1,0,none⟩ = some (.bool false)/\w2.cell? ⟨w.heap.size + 1 + 1 + 1,1,none⟩ = some (.slice none 0 0))/\(∀ o,w2.frozen? ⟨w.heap.size + 1 + 1 + 1,o,none⟩ = false)/\w.heap.size + 1 + 1 + 1 < w2.heap.size):=⟨hK2,⟨hC0,hC1⟩,hf,by omega⟩
 clear hk1 hk2 hA0 hA1 hB0 hB1 HKW HK4 hK2 hC0 hC1 hf hz1 hz2
 have hs0:¬ 0 < sa * sb:=by omega
 clear hs
 go_wp2_with fail
 refine (add_r kb x m n _ _ a b _ (HA.out.2.2.kept HH.out.1) (HA.out.1.kept HH.out.1) (HA.out.2.1.kept HH.out.1) HR.out.1 HR.out.2).mono ?_
 rintro e w3 ⟨hkk,x',s,ao,k,cap,l,rfl,hfl,hn,hri,hex,hst⟩
 have hne:w.heap.size + 1 + 1 + 1 ≠ kb:=by omega
 have hS0:=cell_keptK hkk hne HH.out.2.1.1
 have hS1:=cell_keptK hkk hne HH.out.2.1.2
 have hf2:∀ o,w3.frozen? ⟨w.heap.size + 1 + 1 + 1,o,none⟩ = false:=fun o => (frozen_keptK hkk hne HH.out.2.2.2).trans (HH.out.2.2.1 o)
 have HQ:Hid (KeptK kb w w3/\Flag w3 kb x'/\New w2.heap.size w3 (.slice ao k cap) l/\M.Right s l/\(x' = false->x = false/\M.int s l = M.int m a + M.int n b)/\(x = false->(M.int m a + M.int n b).natAbs < M.W72->x' = false)):=⟨(KeptK.of HH.out.1).trans hkk,hfl,hn,hri,hex,hst⟩
 clear hkk hfl hn hri hex hst hne
 go_wp2
 obtain ⟨q1,q2,q3,q4,q5,q6⟩:=HQ.out
 have hz:=HH.out.2.2.2
 refine bodyPost_ret (v:=.agg #[.bool s,.slice ao k cap]) (by simp [results,Tryz.results125,go_sem,hS0,hS1]) rfl ⟨?_,x',s,ao,k,cap,l,rfl,?_,?_,q4,q5,q6⟩
 ·
  exact (q1.setNew (by show w.heap.size<=w.heap.size + 1 + 1 + 1; omega) _).setNew (by show w.heap.size<=w.heap.size + 1 + 1 + 1; omega) _
 ·
  exact (q2.other (by show kb ≠ w.heap.size + 1 + 1 + 1; omega) _).other (by show kb ≠ w.heap.size + 1 + 1 + 1; omega) _
 ·
  exact ((q3.other (by show w.heap.size + 1 + 1 + 1 < w2.heap.size; omega) _).other (by show w.heap.size + 1 + 1 + 1 < w2.heap.size; omega) _).mono (by omega)
set_option maxHeartbeats 4000000 in
theorem addModulo_yes (kb:Nat) (x m n:Bool) (aoa aob aod:Option Addr) (ka ca kb' cb kd cd:Nat) (a b d:List Nat) (w:World) (hF:Flag w kb x) (ha:Sl w (.slice aoa ka ca) a) (hb:Sl w (.slice aob kb' cb) b) (hd:Sl w (.slice aod kd cd) d) (hra:R m a) (hrb:R n b) (hrd:R n d) (hkd:0 < kd)
  (hs:0 < isgn (M.int m a) 0 * isgn (M.int n b) 0) :
  Calls Tryz.prog 125 #[.pointer (some ⟨kb,0,none⟩),.agg #[.bool m,.slice aoa ka ca],.agg #[.bool n,.slice aob kb' cb],.agg #[.bool false,.slice aod kd cd]] w fun e w' => KeptK kb w w'/\RecP kb w.heap.size x w' e ((M.int n b - M.int n d).natAbs < M.W72/\(M.int m a + (M.int n b - M.int n d)).natAbs < M.W72) (M.int m a + (M.int n b - M.int n d)):=by
 have HW:=sgn_wrap (M.int m a) (M.int n b)
 have HR:Hid (R m a/\R n b/\R n d):=⟨hra,hrb,hrd⟩
 have HA:Hid (Sl w (.slice aoa ka ca) a/\Sl w (.slice aob kb' cb) b/\Flag w kb x/\Sl w (.slice aod kd cd) d):=⟨ha,hb,hF,hd⟩
 have hlt:=hF.lt
 obtain ⟨sa,hsa⟩:∃ sa,sa = isgn (M.int m a) 0:=⟨_,rfl⟩
 obtain ⟨sb,hsb⟩:∃ sb,sb = isgn (M.int n b) 0:=⟨_,rfl⟩
 rw [<- hsa,<- hsb] at HW hs
 have HN:Hid (sa = isgn (M.int m a) 0/\sb = isgn (M.int n b) 0):=⟨hsa,hsb⟩
 clear hra hrb hrd ha hb hd hF hsa hsb
 have K4:∀ x y t u,Kept w ((((w.alloc x).alloc y).alloc t).alloc u):=fun x y t u => ((((Kept.refl w).alloc x).alloc y).alloc t).alloc u
 have HK4:Hid (∀ W,Kept ((((w.alloc (.cells #[.bool m,.slice aoa ka ca] 27)).alloc (.cells #[.bool n,.slice aob kb' cb] 27)).alloc (.cells #[.bool false,.slice aod kd cd] 27)).alloc (.cells #[.bool false,.slice none 0 0] 27)) W->W.cell? ⟨w.heap.size,0,none⟩ = some (.bool m)/\W.cell? ⟨w.heap.size,1,none⟩ = some (.slice aoa ka ca)/\W.cell? ⟨w.heap.size + 1,0,none⟩ = some (.bool n)/\W.cell? ⟨w.heap.size + 1,1,none⟩ = some (.slice aob kb' cb)/\(W.cell? ⟨w.heap.size + 1 + 1,0,none⟩ = some (.bool false)/\W.cell? ⟨w.heap.size + 1 + 1,1,none⟩ = some (.slice aod kd cd))/\(∀ o,W.frozen? ⟨w.heap.size + 1,o,none⟩ = false)/\(W.cell? ⟨w.heap.size + 1 + 1 + 1,0,none⟩ = some (.bool false)/\W.cell? ⟨w.heap.size + 1 + 1 + 1,1,none⟩ = some (.slice none 0 0))/\∀ o,W.frozen? ⟨w.heap.size + 1 + 1 + 1,o,none⟩ = false):=fun W hk => by
  obtain ⟨h1,h2,h3,h4,h5,h6⟩:=box_kept3 (((Kept.refl _).alloc _).trans hk)
  refine ⟨h1,h2,h3,h4,⟨h5,h6⟩,fun o => ?_,?_,fun o => ?_⟩
  ·
   rw [((((Kept.refl _).alloc _).alloc _).trans hk).frozens (w.heap.size + 1) o (by simp)]; exact World.frozen?_alloc_at _ _ _ _ (by simp)
  ·
   constructor <;> (rw [hk.cells _ _ (by simp),World.cell?_alloc_at _ _ _ _ (by simp)]; rfl)
  ·
   rw [hk.frozens (w.heap.size + 1 + 1 + 1) o (by simp)]; exact World.frozen?_alloc_at _ _ _ _ (by simp)
 go_enter Tryz.func125,Tryz.ntmps125
 go_wp2_with fail
 have HKW:Hid (Kept w ((((w.alloc (.cells #[.bool m,.slice aoa ka ca] 27)).alloc (.cells #[.bool n,.slice aob kb' cb] 27)).alloc (.cells #[.bool false,.slice aod kd cd] 27)).alloc (.cells #[.bool false,.slice none 0 0] 27))):=K4 _ _ _ _
 clear K4
 go_region_held3 (fun w' => w'.cell? ⟨w.heap.size,0,none⟩ = some (.bool m)/\w'.cell? ⟨w.heap.size,1,none⟩ = some (.slice aoa ka ca)/\w'.cell? ⟨w.heap.size + 1,0,none⟩ = some (.bool n)/\w'.cell? ⟨w.heap.size + 1,1,none⟩ = some (.slice aob kb' cb)) (go_keep) (first
  | (go_at_call_of 59 (Value.slice aoa ka ca); refine (sign_any m aoa ka ca a _ (HA.out.1.kept (HKW.out.trans (Kept.refl _).drew)) HR.out.1).mono ?_; rintro e w1 ⟨rfl,hk1⟩; rw [<- HN.out.1]; have HK1:=HK4.out _ ((Kept.refl _).drew.trans hk1); obtain ⟨hA0,hA1,hB0,hB1,-,-,-,-⟩:=HK1)
  | (go_at_call_of 59 (Value.slice aob kb' cb); refine (sign_any n aob kb' cb b _ (HA.out.2.1.kept (HKW.out.trans ((Kept.refl _).drew.trans hk1))) HR.out.2.1).mono ?_; rintro e w2 ⟨rfl,hk2⟩; rw [<- HN.out.2]; obtain ⟨hA0',hA1',hB0',hB1',⟨hD0,hD1⟩,hfb,⟨hC0,hC1⟩,hf⟩:=HK4.out _ (((Kept.refl _).drew.trans hk1).trans hk2)))
 have hK2:=((HKW.out.drew.trans hk1).trans hk2)
 have hz2:=hk2.size
 have hz1:=hk1.size
 simp [World.drew] at hz1
 have HS:Hid (∀ V,KeptK kb w2 V->V.cell? ⟨w.heap.size,0,none⟩ = some (.bool m)/\V.cell? ⟨w.heap.size,1,none⟩ = some (.slice aoa ka ca)/\V.cell? ⟨w.heap.size + 1,0,none⟩ = some (.bool n)/\V.cell? ⟨w.heap.size + 1,1,none⟩ = some (.slice aob kb' cb)/\V.cell? ⟨w.heap.size + 1 + 1,0,none⟩ = some (.bool false)/\V.cell? ⟨w.heap.size + 1 + 1,1,none⟩ = some (.slice aod kd cd)/\V.cell? ⟨w.heap.size + 1 + 1 + 1,0,none⟩ = some (.bool false)/\V.cell? ⟨w.heap.size + 1 + 1 + 1,1,none⟩ = some (.slice none 0 0)/\(∀ o,V.frozen? ⟨w.heap.size + 1,o,none⟩ = false)/\(∀ o,V.frozen? ⟨w.heap.size + 1 + 1 + 1,o,none⟩ = false)):=by
  intro V hV
  refine ⟨cell_keptK hV (by omega) hA0',cell_keptK hV (by omega) hA1',cell_keptK hV (by omega) hB0',cell_keptK hV (by omega) hB1',cell_keptK hV (by omega) hD0,cell_keptK hV (by omega) hD1,cell_keptK hV (by omega) hC0,cell_keptK hV (by omega) hC1,fun o => ?_,fun o => ?_⟩
  ·
   rw [frozen_keptK hV (by omega) (by omega)]; exact hfb o
  ·
   rw [frozen_keptK hV (by omega) (by omega)]; exact hf o
 have HH:Hid (Kept w w2/\w.heap.size + 1 + 1 + 1 < w2.heap.size):=⟨hK2,by omega⟩
 have HL:Hid (∀ V,Kept w2 V->Sl V (.slice aob kb' cb) b/\Sl V (.slice aod kd cd) d/\Flag V kb x):=fun V hV => ⟨HA.out.2.1.kept (HH.out.1.trans hV),HA.out.2.2.2.kept (HH.out.1.trans hV),HA.out.2.2.1.kept (HH.out.1.trans hV)⟩
 clear hk1 hk2 hA0 hA1 hB0 hB1 HKW HK4 hK2 hC0 hC1 hf hz1 hz2
 have hnd:(n && decide (0 < kd)) = n:=by simp [hkd]
 go_wp2_with fail
 go_region_with (first
  | (go_at_call 103; refine (signed_r n false aod kd cd _).mono ?_; rw [hnd]; rintro e w3 ⟨rfl,hk3⟩; obtain ⟨hA0,hA1,hB0,hB1,hD0',hD1',-,-,-,-⟩:=HS.out _ (KeptK.of ((Kept.refl _).drew.trans hk3)))
  | (go_at_call 147; refine (sub_r kb x n n (.slice aob kb' cb) (.slice aod kd cd) b d _ (HL.out _ ((Kept.refl _).drew.trans hk3)).2.2 (HL.out _ ((Kept.refl _).drew.trans hk3)).1 (HL.out _ ((Kept.refl _).drew.trans hk3)).2.1 HR.out.2.1 HR.out.2.2).mono ?_; rintro e w4 ⟨hkk,x1,s1,ao1,k1,cap1,l1,rfl,hfl1,hn1,hri1,hex1,hst1⟩; obtain ⟨hA04,hA14,hB04,hB14,hD04,hD14,hC04,hC14,hfb4,hf4⟩:=HS.out _ ((KeptK.of ((Kept.refl _).drew.trans hk3)).trans hkk)))
 all_goals
  have hkA:KeptK kb w w4:=(KeptK.of (HH.out.1.drew.trans hk3)).trans hkk
  have hz3:=hk3.size
  simp only [World.drew] at hz3
  have hz4:=hkk.size
  obtain ⟨W5,hW5⟩:∃ W5,W5 = (w4.setCell ⟨w.heap.size + 1,0,none⟩ (.bool s1)).setCell ⟨w.heap.size + 1,1,none⟩ (.slice ao1 k1 cap1):=⟨_,rfl⟩
  rw [<- hW5]
  have hkB:KeptK kb w W5:=by rw [hW5]; exact (hkA.setNew (by show w.heap.size<=w.heap.size + 1; omega) _).setNew (by show w.heap.size<=w.heap.size + 1; omega) _
  have hfl5:Flag W5 kb x1:=by rw [hW5]; exact (hfl1.other (by show kb ≠ w.heap.size + 1; omega) _).other (by show kb ≠ w.heap.size + 1; omega) _
  have hn5:New w3.heap.size W5 (.slice ao1 k1 cap1) l1:=by rw [hW5]; exact (hn1.other (by show w.heap.size + 1 < _; have:=HH.out.2; omega) _).other (by show w.heap.size + 1 < _; have:=HH.out.2; omega) _
  have e0:W5.cell? ⟨w.heap.size + 1,0,none⟩ = some (.bool s1):=by rw [hW5,World.cell?_setCell_other _ _ _ _ (by simp)]; exact World.cell?_setCell_same _ _ _ hB04
  have e1:W5.cell? ⟨w.heap.size + 1,1,none⟩ = some (.slice ao1 k1 cap1):=by rw [hW5]; exact World.cell?_setCell_same _ _ _ ((World.cell?_setCell_other _ _ _ _ (by simp)).trans hB14)
  have e2:W5.cell? ⟨w.heap.size,0,none⟩ = some (.bool m):=by rw [hW5,World.cell?_setCell_far _ _ _ _ (by simp),World.cell?_setCell_far _ _ _ _ (by simp)]; exact hA04
  have e3:W5.cell? ⟨w.heap.size,1,none⟩ = some (.slice aoa ka ca):=by rw [hW5,World.cell?_setCell_far _ _ _ _ (by simp),World.cell?_setCell_far _ _ _ _ (by simp)]; exact hA14
  have e4:W5.cell? ⟨w.heap.size + 1 + 1 + 1,0,none⟩ = some (.bool false):=by rw [hW5,World.cell?_setCell_far _ _ _ _ (by simp),World.cell?_setCell_far _ _ _ _ (by simp)]; exact hC04
  have e5:W5.cell? ⟨w.heap.size + 1 + 1 + 1,1,none⟩ = some (.slice none 0 0):=by rw [hW5,World.cell?_setCell_far _ _ _ _ (by simp),World.cell?_setCell_far _ _ _ _ (by simp)]; exact hC14
  have e6:∀ o,W5.frozen? ⟨w.heap.size + 1 + 1 + 1,o,none⟩ = false:=fun o => by rw [hW5]; simp only [World.frozen?_setCell]; exact hf4 o
  have e7:W5.heap.size = w4.heap.size:=by rw [hW5]; simp
  have HQ:Hid (KeptK kb w W5/\Flag W5 kb x1/\New w3.heap.size W5 (.slice ao1 k1 cap1) l1/\M.Right s1 l1/\(x1 = false->x = false/\M.int s1 l1 = M.int n b - M.int n d)/\(x = false->(M.int n b - M.int n d).natAbs < M.W72->x1 = false)/\(W5.cell? ⟨w.heap.size + 1 + 1 + 1,0,none⟩ = some (.bool false)/\W5.cell? ⟨w.heap.size + 1 + 1 + 1,1,none⟩ = some (.slice none 0 0))/\(∀ o,W5.frozen? ⟨w.heap.size + 1 + 1 + 1,o,none⟩ = false)/\w.heap.size + 1 + 1 + 1 < W5.heap.size):=⟨hkB,hfl5,hn5,hri1,hex1,hst1,⟨e4,e5⟩,e6,by have:=HH.out.2; omega⟩
  clear hkA hz3 hz4 hkB hfl5 hn5 e4 e5 e6 e7 hW5 hkk hk3 hfl1 hn1 hri1 hex1 hst1 hA04 hA14 hB04 hB14 hD04 hD14 hC04 hC14 hfb4 hf4 hA0 hA1 hB0 hB1 hD0' hD1' hA0' hA1' hB0' hB1' hD0 hD1 hfb HS HL HH
  go_wp2_with fail
  refine (add_r kb x1 m s1 _ _ a l1 _ HQ.out.2.1 (Sl.keptK HA.out.2.2.1 HA.out.1 HQ.out.1) HQ.out.2.2.1.sl HR.out.1 (R.of_right HQ.out.2.2.2.1)).mono ?_
  rintro e w6 ⟨hkk,x',s,ao,k,cap,l,rfl,hfl,hn,hri,hex,hst⟩
  have hne:w.heap.size + 1 + 1 + 1 ≠ kb:=by omega
  have hS0:=cell_keptK hkk hne HQ.out.2.2.2.2.2.2.1.1
  have hS1:=cell_keptK hkk hne HQ.out.2.2.2.2.2.2.1.2
  have hf2:∀ o,w6.frozen? ⟨w.heap.size + 1 + 1 + 1,o,none⟩ = false:=fun o => (frozen_keptK hkk hne HQ.out.2.2.2.2.2.2.2.2).trans (HQ.out.2.2.2.2.2.2.2.1 o)
  have HP:Hid (KeptK kb w w6/\Flag w6 kb x'/\New W5.heap.size w6 (.slice ao k cap) l/\M.Right s l/\(x' = false->x1 = false/\M.int s l = M.int m a + M.int s1 l1)/\(x1 = false->(M.int m a + M.int s1 l1).natAbs < M.W72->x' = false)):=⟨HQ.out.1.trans hkk,hfl,hn,hri,hex,hst⟩
  clear hkk hfl hn hri hex hst hne
  go_wp2
  obtain ⟨q1,q2,q3,q4,q5,q6⟩:=HP.out
  obtain ⟨-,-,-,-,p5,p6,-,-,hz⟩:=HQ.out
  refine bodyPost_ret (v:=.agg #[.bool s,.slice ao k cap]) (by simp [results,Tryz.results125,go_sem,hS0,hS1]) rfl ⟨?_,x',s,ao,k,cap,l,rfl,?_,?_,q4,fun h => ?_,fun h h' => ?_⟩
  ·
   exact (q1.setNew (by show w.heap.size<=w.heap.size + 1 + 1 + 1; omega) _).setNew (by show w.heap.size<=w.heap.size + 1 + 1 + 1; omega) _
  ·
   exact (q2.other (by show kb ≠ w.heap.size + 1 + 1 + 1; omega) _).other (by show kb ≠ w.heap.size + 1 + 1 + 1; omega) _
  ·
   exact ((q3.other (by show w.heap.size + 1 + 1 + 1 < W5.heap.size; omega) _).other (by show w.heap.size + 1 + 1 + 1 < W5.heap.size; omega) _).mono (by omega)
  ·
   have h1:=q5 h
   have h2:=p5 h1.1
   exact ⟨h2.1,by rw [h1.2,h2.2]⟩
  ·
   have h1:=p6 h h'.1
   exact q6 h1 (by rw [(p5 h1).2]; exact h'.2)
end F
end Go.Proofs.YthfbfbfambbkaaaGreatDoor
