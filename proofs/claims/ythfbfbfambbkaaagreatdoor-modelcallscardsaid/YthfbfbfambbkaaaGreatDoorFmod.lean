/- A reckoning's mulModulo: a times b modulo d. -/
import Derived.Test.YthfbfbfambbkaaaGreatDoorGal
namespace Go.Proofs.YthfbfbfambbkaaaGreatDoor
open Go.RowKit
namespace F
def RecV (kb B:Nat) (x:Bool) (w:World) (e:Ending) (z v:Int):Prop :=
 ∃ x' s ao k cap l,e = .returned (.agg #[.bool s,.slice ao k cap])/\Flag w kb x'/\New B w (.slice ao k cap) l/\M.Right s l/\(x' = false->x = false/\M.int s l = v)/\(x = false->z.natAbs < M.W72->x' = false)
set_option maxHeartbeats 4000000 in
theorem mulModulo_r (kb:Nat) (x m n:Bool) (va vb vd:Value) (a b d:List Nat) (w:World) (hF:Flag w kb x) (ha:Sl w va a) (hb:Sl w vb b) (hd:Sl w vd d) (hra:R m a) (hrb:R n b) (hrd:R false d) (hd0:0 < d.length) :
  Calls Tryz.prog 126 #[.pointer (some ⟨kb,0,none⟩),.agg #[.bool m,va],.agg #[.bool n,vb],.agg #[.bool false,vd]] w fun e w' => KeptK kb w w'/\RecV kb w.heap.size x w' e (Int.tmod (M.int m a) (M.int false d) * M.int n b) (Int.tmod (Int.tmod (M.int m a) (M.int false d) * M.int n b) (M.int false d)):=by
 obtain ⟨z,hz⟩:∃ z,z = Int.tmod (M.int m a) (M.int false d):=⟨_,rfl⟩
 rw [<- hz]
 have HR:Hid (R m a/\R n b/\R false d/\0 < d.length/\z = Int.tmod (M.int m a) (M.int false d)):=⟨hra,hrb,hrd,hd0,hz⟩
 have HA:Hid (Sl w va a/\Sl w vb b/\Sl w vd d/\Flag w kb x):=⟨ha,hb,hd,hF⟩
 have hlt:=hF.lt
 clear hra hrb hrd hd0 ha hb hd hF hz
 have K4:∀ x y t u,Kept w ((((w.alloc x).alloc y).alloc t).alloc u):=fun x y t u => ((((Kept.refl w).alloc x).alloc y).alloc t).alloc u
 go_enter Tryz.func126,Tryz.ntmps126
 go_wp2_with fail
 refine (quoRem_r m false va vd a d _ (HA.out.1.kept (K4 _ _ _ _)) (HA.out.2.2.1.kept (K4 _ _ _ _)) HR.out.1 HR.out.2.2.1 HR.out.2.2.2.1).mono ?_
 rintro e w1 ⟨hk,s,aq,kq,cq,q,t,ar,kr,cr,r,rfl,hnq,hnr,hrq,hrr,hq,hr⟩
 have hsz:=hk.size
 simp at hsz
 obtain ⟨-,-,hb0,hb1,hd0,hd1⟩:=box_kept3 (((Kept.refl _).alloc _).trans hk)
 have hB3:w1.cell? ⟨w.heap.size + 1 + 1 + 1,0,none⟩ = some (.bool false)/\w1.cell? ⟨w.heap.size + 1 + 1 + 1,1,none⟩ = some (.slice none 0 0):=by
  constructor <;> (rw [hk.cells _ _ (by simp),World.cell?_alloc_at _ _ _ _ (by simp)]; rfl)
 have hf3:∀ o,w1.frozen? ⟨w.heap.size + 1 + 1 + 1,o,none⟩ = false:=fun o => by
  rw [hk.frozens (w.heap.size + 1 + 1 + 1) o (by simp)]
  exact World.frozen?_alloc_at _ _ _ _ (by simp)
 have HC:Hid ((w1.cell? ⟨w.heap.size + 1,0,none⟩ = some (.bool n)/\w1.cell? ⟨w.heap.size + 1,1,none⟩ = some vb)/\(w1.cell? ⟨w.heap.size + 1 + 1,0,none⟩ = some (.bool false)/\w1.cell? ⟨w.heap.size + 1 + 1,1,none⟩ = some vd)/\(w1.cell? ⟨w.heap.size + 1 + 1 + 1,0,none⟩ = some (.bool false)/\w1.cell? ⟨w.heap.size + 1 + 1 + 1,1,none⟩ = some (.slice none 0 0))/\(∀ o,w1.frozen? ⟨w.heap.size + 1 + 1 + 1,o,none⟩ = false)/\w.heap.size + 1 + 1 + 1 + 1<=w1.heap.size):=⟨⟨hb0,hb1⟩,⟨hd0,hd1⟩,hB3,hf3,hsz⟩
 have HF:Hid (Kept w w1/\New (w.heap.size + 1 + 1 + 1 + 1) w1 (.slice ar kr cr) r/\M.Right t r/\M.int t r = z):=⟨(K4 _ _ _ _).trans hk,hnr.mono (by simp),hrr,by rw [hr,<- HR.out.2.2.2.2]⟩
 clear hk hnq hnr hrq hrr hq hr K4 hsz hb0 hb1 hd0 hd1 hB3 hf3
 go_wp2_with fail
 have hK:Kept w1 ((w1.alloc (.cells #[.bool s,.slice aq kq cq] 27)).alloc (.cells #[.bool t,.slice ar kr cr] 27)):=((Kept.refl w1).alloc _).alloc _
 have hX:=box_kept2 (Kept.refl ((w1.alloc (.cells #[.bool s,.slice aq kq cq] 27)).alloc (.cells #[.bool t,.slice ar kr cr] 27)))
 have hFr:∀ o,((w1.alloc (.cells #[.bool s,.slice aq kq cq] 27)).alloc (.cells #[.bool t,.slice ar kr cr] 27)).frozen? ⟨w1.heap.size + 1,o,none⟩ = false:=fun o => World.frozen?_alloc_at _ _ _ _ (by simp)
 have hZ:((w1.alloc (.cells #[.bool s,.slice aq kq cq] 27)).alloc (.cells #[.bool t,.slice ar kr cr] 27)).heap.size = w1.heap.size + 1 + 1:=by simp
 generalize hW:(w1.alloc (.cells #[.bool s,.slice aq kq cq] 27)).alloc (.cells #[.bool t,.slice ar kr cr] 27) = W at hK hX hZ hFr ⊢
 obtain ⟨-,-,hx2,hx3⟩:=hX
 obtain ⟨p,hp⟩:∃ p,p = w1.heap.size:=⟨_,rfl⟩
 rw [<- hp] at hx2 hx3 hFr ⊢
 have l0:w.heap.size + 1 + 1 + 1 + 1<=p:=by rw [hp]; exact HC.out.2.2.2.2
 have HS:Hid (∀ V,KeptK kb W V->V.cell? ⟨w.heap.size + 1,0,none⟩ = some (.bool n)/\V.cell? ⟨w.heap.size + 1,1,none⟩ = some vb/\V.cell? ⟨w.heap.size + 1 + 1,0,none⟩ = some (.bool false)/\V.cell? ⟨w.heap.size + 1 + 1,1,none⟩ = some vd/\V.cell? ⟨w.heap.size + 1 + 1 + 1,0,none⟩ = some (.bool false)/\V.cell? ⟨w.heap.size + 1 + 1 + 1,1,none⟩ = some (.slice none 0 0)/\V.cell? ⟨p + 1,0,none⟩ = some (.bool t)/\V.cell? ⟨p + 1,1,none⟩ = some (.slice ar kr cr)/\(∀ o,V.frozen? ⟨w.heap.size + 1 + 1 + 1,o,none⟩ = false)/\(∀ o,V.frozen? ⟨p + 1,o,none⟩ = false)):=by
  intro V hV
  have C:=HC.out
  refine ⟨cell_keptK hV (by omega) (cell_kept hK C.1.1),cell_keptK hV (by omega) (cell_kept hK C.1.2),cell_keptK hV (by omega) (cell_kept hK C.2.1.1),cell_keptK hV (by omega) (cell_kept hK C.2.1.2),cell_keptK hV (by omega) (cell_kept hK C.2.2.1.1),cell_keptK hV (by omega) (cell_kept hK C.2.2.1.2),cell_keptK hV (by omega) hx2,cell_keptK hV (by omega) hx3,fun o => ?_,fun o => ?_⟩
  ·
   rw [frozen_keptK hV (by omega) (by omega),hK.frozens _ o (by omega)]; exact C.2.2.2.1 o
  ·
   rw [frozen_keptK hV (by omega) (by omega)]; exact hFr o
 have HG:Hid (Kept w W/\Flag W kb x/\Sl W vb b/\Sl W vd d/\New (w.heap.size + 1 + 1 + 1 + 1) W (.slice ar kr cr) r/\M.Right t r/\M.int t r = z/\W.heap.size = p + 1 + 1/\w.heap.size + 1 + 1 + 1 + 1<=p/\kb < w.heap.size):=by
  have k:=HF.out.1.trans hK
  exact ⟨k,HA.out.2.2.2.kept k,HA.out.2.1.kept k,HA.out.2.2.1.kept k,HF.out.2.1.kept hK,HF.out.2.2.1,HF.out.2.2.2,by rw [hZ,hp],l0,hlt⟩
 obtain ⟨hb0,hb1,hd0,hd1,-,-,hr0,hr1,-,-⟩:=HS.out _ (KeptK.refl kb W)
 clear hK hW hZ HC HF hx2 hx3 hFr hp l0 HA
 go_region_with (first
  | (go_at_call 98; refine (mul_r kb x t n (.slice ar kr cr) vb r b _ (HG.out.2.1.kept (Kept.refl _).drew) ((HG.out.2.2.2.2.1.sl).kept (Kept.refl _).drew) (HG.out.2.2.1.kept (Kept.refl _).drew) (R.of_right HG.out.2.2.2.2.2.1) HR.out.2.1).mono ?_; rintro e w2 ⟨hkk,x',s',ao',k',cap',l,rfl,hfl,hn,hri,hex,hst⟩; obtain ⟨hb0',hb1',hd0',hd1',-,-,hr0',hr1',-,-⟩:=HS.out _ ((KeptK.of (Kept.refl _).drew).trans hkk))
  | (go_at_call 101; refine (quoRem_r s' false (.slice ao' k' cap') vd l d _ hn.sl (Sl.keptK (HG.out.2.1.kept (Kept.refl _).drew) (HG.out.2.2.2.1.kept (Kept.refl _).drew) hkk) (R.of_right hri) HR.out.2.2.1 HR.out.2.2.2.1).mono ?_; rintro e w3 ⟨hk3,s3,aq3,kq3,cq3,q3,t3,ar3,kr3,cr3,r3,rfl,hnq3,hnr3,hrq3,hrr3,hq3,hr3⟩; obtain ⟨-,-,-,-,hc0,hc1,hr0'',hr1'',hf8,hf10⟩:=HS.out _ (((KeptK.of (Kept.refl _).drew).trans hkk).then hk3)))
 all_goals
  have HQ:Hid ((x' = false->x = false/\M.int s' l = M.int t r * M.int n b)/\(x = false->(M.int t r * M.int n b).natAbs < M.W72->x' = false)/\M.int t3 r3 = Int.tmod (M.int s' l) (M.int false d)/\KeptK kb W.drew w2/\Kept w2 w3/\Flag w2 kb x'/\New w2.heap.size w3 (.slice ar3 kr3 cr3) r3/\M.Right t3 r3):=⟨hex,hst,hr3,hkk,hk3,hfl,hnr3,hrr3⟩
  clear hex hst hr3 hkk hk3 hfl hnr3 hrr3 hnq3 hrq3 hq3 hri hn hb0' hb1' hd0' hd1' hr0' hr1' hb0 hb1 hd0 hd1 hr0 hr1 HS
  have n1:¬ (p + 1 = w.heap.size + 1 + 1 + 1):=by have:=HG.out.2.2.2.2.2.2.2.2.1; omega
  have n2:¬ (w.heap.size + 1 + 1 + 1 = p + 1):=by omega
  go_wp2
  obtain ⟨g1,g2,g3,g4,g5,g6,g7,g8,g9,g10⟩:=HG.out
  obtain ⟨hex,hst,hr3,hkk,hk3,hfl,hnr3,hrr3⟩:=HQ.out
  have hz2:=hkk.size
  simp only [World.drew] at hz2
  have hkA:KeptK kb w w3:=((KeptK.of g1.drew).trans hkk).then hk3
  refine bodyPost_ret (v:=.agg #[.bool t3,.slice ar3 kr3 cr3]) (by simp [results,Tryz.results126,go_sem,hc0,hc1]) rfl ⟨?_,x',t3,ar3,kr3,cr3,r3,rfl,?_,?_,hrr3,fun h => ?_,fun h h' => ?_⟩
  ·
   exact (((hkA.setNew (by show w.heap.size<=p + 1; omega) _).setNew (by show w.heap.size<=p + 1; omega) _).setNew (by show w.heap.size<=w.heap.size + 1 + 1 + 1; omega) _).setNew (by show w.heap.size<=w.heap.size + 1 + 1 + 1; omega) _
  ·
   exact ((((hfl.kept hk3).other (by show kb ≠ p + 1; omega) _).other (by show kb ≠ p + 1; omega) _).other (by show kb ≠ w.heap.size + 1 + 1 + 1; omega) _).other (by show kb ≠ w.heap.size + 1 + 1 + 1; omega) _
  ·
   exact ((((hnr3.other (by show p + 1 < _; omega) _).other (by show p + 1 < _; omega) _).other (by show w.heap.size + 1 + 1 + 1 < _; omega) _).other (by show w.heap.size + 1 + 1 + 1 < _; omega) _).mono (by omega)
  ·
   rw [hr3,(hex h).2,g7]; exact ⟨(hex h).1,rfl⟩
  ·
   exact hst h (by rw [g7]; exact h')
end F
end Go.Proofs.YthfbfbfambbkaaaGreatDoor
