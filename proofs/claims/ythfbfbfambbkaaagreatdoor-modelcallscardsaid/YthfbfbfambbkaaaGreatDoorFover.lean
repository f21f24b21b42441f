/- A reckoning's mulOver: a times b over d, cut toward 0, and what is left. -/
import Derived.Test.YthfbfbfambbkaaaGreatDoorTk
import Derived.Test.YthfbfbfambbkaaaGreatDoorGam
namespace Go.Proofs.YthfbfbfambbkaaaGreatDoor
open Go.RowKit
namespace F
theorem hidS {p:Prop} (h:p):Hid p:=h
theorem hid {p:Prop} (h:p):Hid p:=h
def OverQ (kb B:Nat) (x:Bool) (w:World) (e:Ending) (za zb zd:Int):Prop :=
 ∃ x' s ao k c l t ap k' c' l',e = .returned (.tuple #[.agg #[.bool s,.slice ao k c],.agg #[.bool t,.slice ap k' c']])/\Flag w kb x'/\New B w (.slice ao k c) l/\New B w (.slice ap k' c') l'/\M.Right s l/\M.Right t l' /\
  ((Int.tmod za zd * zb).natAbs < M.W72->M.int t l' = Int.tmod (Int.tmod za zd * zb) zd/\(x' = false->x = false/\M.int s l = Int.tdiv za zd * zb + Int.tdiv (Int.tmod za zd * zb) zd)/\(x = false->(Int.tdiv za zd * zb).natAbs < M.W72->(Int.tdiv za zd * zb + Int.tdiv (Int.tmod za zd * zb) zd).natAbs < M.W72->x' = false))
theorem over_last {x x1 x4 x5:Bool} {z1 z2 z3 v4 v5:Int} (hx4:x4 = false->x1 = false/\v4 = z1) (hy4:x1 = false->z1.natAbs < M.W72->x4 = false) (hx5:x5 = false->x4 = false/\v5 = v4 + z3) (hy5:x4 = false->(v4 + z3).natAbs < M.W72->x5 = false) (h10:x1 = false->x = false) (h01:x = false->x1 = false) (e3:z3 = z2) :
  (x5 = false->x = false/\v5 = z1 + z2)/\(x = false->z1.natAbs < M.W72->(z1 + z2).natAbs < M.W72->x5 = false):=by
 subst e3
 refine ⟨fun h => ?_,fun h h1 h2 => ?_⟩
 ·
  have a1:=hx5 h
  have a2:=hx4 a1.1
  exact ⟨h10 a2.1,by rw [a1.2,a2.2]⟩
 ·
  have a1:=hy4 (h01 h) h1
  exact hy5 a1 (by rw [(hx4 a1).2]; exact h2)
set_option maxRecDepth 100000 in
set_option maxHeartbeats 4000000 in
theorem mulOver_q (kb:Nat) (x m n:Bool) (aoa aob aod:Option Addr) (ka ca kb' cb kd cd:Nat) (a b d:List Nat) (w:World) (hF:Flag w kb x) (ha:Sl w (.slice aoa ka ca) a) (hb:Sl w (.slice aob kb' cb) b) (hd:Sl w (.slice aod kd cd) d) (hra:R m a) (hrb:R n b) (hrd:R false d) (hd0:0 < d.length) :
  Calls Tryz.prog 127 #[.pointer (some ⟨kb,0,none⟩),.agg #[.bool m,.slice aoa ka ca],.agg #[.bool n,.slice aob kb' cb],.agg #[.bool false,.slice aod kd cd]] w fun e w' => KeptK kb w w'/\OverQ kb w.heap.size x w' e (M.int m a) (M.int n b) (M.int false d):=by
 have HR:Hid (R m a/\R n b/\R false d/\0 < d.length):=⟨hra,hrb,hrd,hd0⟩
 have HA:Hid (Sl w (.slice aoa ka ca) a/\Sl w (.slice aob kb' cb) b/\Sl w (.slice aod kd cd) d/\Flag w kb x):=⟨ha,hb,hd,hF⟩
 have hlt:=hF.lt
 clear hra hrb hrd hd0 ha hb hd hF
 have K5:∀ x y t u v,Kept w (((((w.alloc x).alloc y).alloc t).alloc u).alloc v):=fun x y t u v => (((((Kept.refl w).alloc x).alloc y).alloc t).alloc u).alloc v
 go_enter Tryz.func127,Tryz.ntmps127
 go_wp2_with fail
 refine (quoRem_r m false _ _ a d _ (HA.out.1.kept (K5 _ _ _ _ _)) (HA.out.2.2.1.kept (K5 _ _ _ _ _)) HR.out.1 HR.out.2.2.1 HR.out.2.2.2).mono ?_
 rintro e w1 ⟨hk,s,aq,kq,cq,q,t,ar,kr,cr,r,rfl,hnq,hnr,hrq,hrr,hq,hr⟩
 have hsz:=hk.size
 simp at hsz
 obtain ⟨-,-,hb0,hb1,hd0,hd1⟩:=box_kept3 ((((Kept.refl _).alloc _).alloc _).trans hk)
 have Z8:ZBox w1 (w.heap.size + 1 + 1 + 1):=by
  have h:=((ZBox.alloc (((w.alloc (.cells #[.bool m,.slice aoa ka ca] 27)).alloc (.cells #[.bool n,.slice aob kb' cb] 27)).alloc (.cells #[.bool false,.slice aod kd cd] 27))).kept ((Kept.refl _).alloc _)).kept hk
  simp only [World.size_alloc] at h
  exact h
 have Z9:ZBox w1 (w.heap.size + 1 + 1 + 1 + 1):=by
  have h:=(ZBox.alloc ((((w.alloc (.cells #[.bool m,.slice aoa ka ca] 27)).alloc (.cells #[.bool n,.slice aob kb' cb] 27)).alloc (.cells #[.bool false,.slice aod kd cd] 27)).alloc (.cells #[.bool false,.slice none 0 0] 27))).kept hk
  simp only [World.size_alloc] at h
  exact h
 have HC:Hid ((w1.cell? ⟨w.heap.size + 1,0,none⟩ = some (.bool n)/\w1.cell? ⟨w.heap.size + 1,1,none⟩ = some (.slice aob kb' cb))/\(w1.cell? ⟨w.heap.size + 1 + 1,0,none⟩ = some (.bool false)/\w1.cell? ⟨w.heap.size + 1 + 1,1,none⟩ = some (.slice aod kd cd))/\ZBox w1 (w.heap.size + 1 + 1 + 1)/\ZBox w1 (w.heap.size + 1 + 1 + 1 + 1)/\w.heap.size + 1 + 1 + 1 + 1 + 1<=w1.heap.size):=⟨⟨hb0,hb1⟩,⟨hd0,hd1⟩,Z8,Z9,hsz⟩
 have HN:Hid (Kept w w1/\New (w.heap.size + 1 + 1 + 1 + 1 + 1) w1 (.slice aq kq cq) q/\New (w.heap.size + 1 + 1 + 1 + 1 + 1) w1 (.slice ar kr cr) r):=⟨(K5 _ _ _ _ _).trans hk,hnq.mono (by simp),hnr.mono (by simp)⟩
 have HX:Hid (M.Right s q/\M.Right t r/\M.int s q = Int.tdiv (M.int m a) (M.int false d)/\M.int t r = Int.tmod (M.int m a) (M.int false d)):=⟨hrq,hrr,hq,hr⟩
 clear hk hnq hnr hrq hrr hq hr K5 hsz hb0 hb1 hd0 hd1 Z8 Z9
 go_upto_region 2 with fail
 have hK:Kept w1 ((w1.alloc (.cells #[.bool s,.slice aq kq cq] 27)).alloc (.cells #[.bool t,.slice ar kr cr] 27)):=((Kept.refl w1).alloc _).alloc _
 have hY:=box_kept2 (Kept.refl ((w1.alloc (.cells #[.bool s,.slice aq kq cq] 27)).alloc (.cells #[.bool t,.slice ar kr cr] 27)))
 have hZ:((w1.alloc (.cells #[.bool s,.slice aq kq cq] 27)).alloc (.cells #[.bool t,.slice ar kr cr] 27)).heap.size = w1.heap.size + 1 + 1:=by simp
 generalize (w1.alloc (.cells #[.bool s,.slice aq kq cq] 27)).alloc (.cells #[.bool t,.slice ar kr cr] 27) = W at hK hY hZ ⊢
 obtain ⟨hy0,hy1,hy2,hy3⟩:=hY
 obtain ⟨⟨i1,i2⟩,⟨i3,i4⟩,i5,i6,i7⟩:=HC.out
 obtain ⟨p11,hp11⟩:∃ p,p = w1.heap.size + 1:=⟨_,rfl⟩
 rw [<- hp11] at hy2 hy3 ⊢
 obtain ⟨p10,hp10⟩:∃ p,p = w1.heap.size:=⟨_,rfl⟩
 rw [<- hp10] at hy0 hy1 hp11 hZ i7 ⊢
 obtain ⟨p9,hp9⟩:∃ p,p = w.heap.size + 1 + 1 + 1 + 1:=⟨_,rfl⟩
 rw [<- hp9] at i6 ⊢
 obtain ⟨p8,hp8⟩:∃ p,p = w.heap.size + 1 + 1 + 1:=⟨_,rfl⟩
 rw [<- hp8] at i5 ⊢
 obtain ⟨p7,hp7⟩:∃ p,p = w.heap.size + 1 + 1:=⟨_,rfl⟩
 rw [<- hp7] at i3 i4 ⊢
 obtain ⟨p6,hp6⟩:∃ p,p = w.heap.size + 1:=⟨_,rfl⟩
 rw [<- hp6] at i1 i2 ⊢
 have hKW:=HN.out.1.trans hK
 have hF:Flag W kb x:=HA.out.2.2.2.kept hKW
 have B6:Box kb W p6 n aob kb' cb b:=Box.mk hF (by omega) (cell_kept hK i1) (cell_kept hK i2) (HA.out.2.1.kept hKW)
 have B7:Box kb W p7 false aod kd cd d:=Box.mk hF (by omega) (cell_kept hK i3) (cell_kept hK i4) (HA.out.2.2.1.kept hKW)
 have B10:Box kb W p10 s aq kq cq q:=Box.mk hF (by omega) hy0 hy1 (HN.out.2.1.kept hK).sl
 have B11:Box kb W p11 t ar kr cr r:=Box.mk hF (by omega) hy2 hy3 (HN.out.2.2.kept hK).sl
 have zp8:ZBox W p8:=i5.kept hK
 have zp9:ZBox W p9:=i6.kept hK
 have HP:Hid (Kept w W/\kb < w.heap.size/\w.heap.size < p6/\p6 < p7/\p7 < p8/\p8 < p9/\p9 < p10/\p10 < p11/\p11 < W.heap.size):=⟨hKW,hlt,by omega,by omega,by omega,by omega,by omega,by omega,by omega⟩
 clear hK hy0 hy1 hy2 hy3 i1 i2 i3 i4 i5 i6 i7 hp6 hp7 hp8 hp9 hp10 hp11 hZ hKW HC HN hlt HA
 go_cut [12,13] (fun s12 s13 wc => ∃ (p12 p13:Nat) (s3 t3:Bool) (aq3 ar3:Option Addr) (kq3 cq3 kr3 cr3:Nat),s12 = .pointer (some ⟨p12,0,none⟩)/\s13 = .pointer (some ⟨p13,0,none⟩)/\Hid (KeptK kb W wc/\∃ (x1:Bool) (q3 r3:List Nat),Flag wc kb x1/\Box kb wc p12 s3 aq3 kq3 cq3 q3/\Box kb wc p13 t3 ar3 kr3 cr3 r3/\New W.heap.size wc (.slice ar3 kr3 cr3) r3/\M.Right s3 q3/\M.Right t3 r3/\W.heap.size<=p12/\W.heap.size<=p13/\((M.int t r * M.int n b).natAbs < M.W72->(x = false->x1 = false)/\M.int s3 q3 = Int.tdiv (M.int t r * M.int n b) (M.int false d)/\M.int t3 r3 = Int.tmod (M.int t r * M.int n b) (M.int false d))/\(x1 = false->x = false)))
 case first =>
  have KT:KeptK kb W W.drew:=KeptK.of (Kept.refl _).drew
  have hF:Flag W.drew kb x:=Flag.kept hF (Kept.refl _).drew
  have sS:=hidS (fun (V:World) (K:KeptK kb W V) => And.intro (B11.c0 K) (And.intro (B11.c1 K) (And.intro (B6.c0 K) (And.intro (B6.c1 K) (And.intro (B7.c0 K) (B7.c1 K))))))
  refine wp_region_held_drew (S:=fun w' => w'.cell? ⟨p11,0,none⟩ = some (.bool t)/\w'.cell? ⟨p11,1,none⟩ = some (.slice ar kr cr)/\w'.cell? ⟨p6,0,none⟩ = some (.bool n)/\w'.cell? ⟨p6,1,none⟩ = some (.slice aob kb' cb)/\w'.cell? ⟨p7,0,none⟩ = some (.bool false)/\w'.cell? ⟨p7,1,none⟩ = some (.slice aod kd cd)) (by kernel_rfl) (sS.out _ KT) (fun hHeld => ?_)
  generalize W.drew = Wd at KT hF hHeld ⊢
  refine wk 0 hHeld ?_
  refine wk 1 hHeld ?_
  refine wk 2 hHeld ?_
  refine wk 4 hHeld ?_
  refine wpAnyH_ready (rs:=[3,9,10]) (by kernel_rfl) (by simp) ?_
  refine AllReadyH.cons rfl (fun K hK => ?_) ?_
  ·
   go_simp
   refine (mul_q kb x t n (.slice ar kr cr) (.slice aob kb' cb) r b _ hF (B11.sl KT) (B6.sl KT) (R.of_right HX.out.2.1) HR.out.2.1).mono ?_
   rintro e w2 ⟨hk2,x1,s1,ao1,k1,c1,l1,rfl,hF1,n1,hr1,hx1,hy1,hv1⟩
   have HX1:=hid (And.intro hr1 (And.intro hx1 (And.intro hy1 hv1)))
   clear hr1 hx1 hy1 hv1
   refine hK.out _ _ (sS.out _ (KT.trans hk2)) (fun hHeld => ?_)
   clear hK K
   have KT:=(KT.trans hk2)
   have hF:=hF1
   refine wpAnyH_ready (rs:=[5,9,10]) (by kernel_rfl) (by simp) ?_
   refine AllReadyH.cons rfl (fun K hK => ?_) ?_
   ·
    go_simp
    refine (quoRem_r s1 false (.slice ao1 k1 c1) (.slice aod kd cd) l1 d _ n1.sl (B7.sl KT) (R.of_right HX1.out.1) HR.out.2.2.1 HR.out.2.2.2).mono ?_
    rintro e w3 ⟨hk3,s3,aq3,kq3,cq3,q3,t3,ar3,kr3,cr3,r3,rfl,n3,n4,hrq3,hrr3,hq3,hr3⟩
    have n3:=n3.mono KT.size
    have n4:=n4.mono KT.size
    have HX3:=hid (And.intro hrq3 (And.intro hrr3 (And.intro hq3 hr3)))
    clear hrq3 hrr3 hq3 hr3
    refine hK.out _ _ (sS.out _ (KT.then hk3)) (fun hHeld => ?_)
    clear hK K
    have n1:=New.kept n1 hk3
    have KT:=(KT.then hk3)
    have hF:=Flag.kept hF hk3
    refine wk 6 hHeld ?_
    refine wk 7 hHeld ?_
    refine wk 8 hHeld ?_
    refine wpAnyH_ready (rs:=[9,10]) (by kernel_rfl) (by simp) ?_
    refine AllReadyH.cons rfl (fun K hK => ?_) ?_
    ·
     go_simp
     refine hK.out _ _ (sS.out _ (KT.then ((Kept.refl w3).alloc _))) (fun hHeld => ?_)
     clear hK K
     have zp12:ZBox (w3.alloc (.cells #[.bool false,.slice none 0 0] 27)) w3.heap.size:=ZBox.alloc _
     have hkp12:w3.heap.size ≠ kb:=by have:=hF.lt; omega
     have hgp12:W.heap.size<=w3.heap.size:=KT.size
     have n1:=New.kept n1 ((Kept.refl w3).alloc (.cells #[.bool false,.slice none 0 0] 27))
     have n3:=New.kept n3 ((Kept.refl w3).alloc (.cells #[.bool false,.slice none 0 0] 27))
     have n4:=New.kept n4 ((Kept.refl w3).alloc (.cells #[.bool false,.slice none 0 0] 27))
     have KT:=KT.then ((Kept.refl w3).alloc (.cells #[.bool false,.slice none 0 0] 27))
     have hF:=Flag.kept hF ((Kept.refl w3).alloc (.cells #[.bool false,.slice none 0 0] 27))
     obtain ⟨p12,hpp12⟩:∃ p,p = w3.heap.size:=⟨_,rfl⟩
     rw [<- hpp12] at zp12 hkp12 hgp12  ⊢
     generalize w3.alloc (.cells #[.bool false,.slice none 0 0] 27) = Wa9 at zp12  n1 n3 n4 KT hF hHeld ⊢
     clear hpp12
     refine rdy 10 fun K hK => ?_
     go_simp
     refine hK.out _ _ (sS.out _ (KT.then ((Kept.refl Wa9).alloc _))) (fun hHeld => ?_)
     clear hK K
     have zp13:ZBox (Wa9.alloc (.cells #[.bool false,.slice none 0 0] 27)) Wa9.heap.size:=ZBox.alloc _
     have hkp13:Wa9.heap.size ≠ kb:=by have:=hF.lt; omega
     have hgp13:W.heap.size<=Wa9.heap.size:=KT.size
     have dp13p12:¬ (Wa9.heap.size = p12):=by have:=zp12.lt; omega
     have dp12p13:¬ (p12 = Wa9.heap.size):=by have:=zp12.lt; omega
     have zp12:=zp12.kept ((Kept.refl Wa9).alloc (.cells #[.bool false,.slice none 0 0] 27))
     have n1:=New.kept n1 ((Kept.refl Wa9).alloc (.cells #[.bool false,.slice none 0 0] 27))
     have n3:=New.kept n3 ((Kept.refl Wa9).alloc (.cells #[.bool false,.slice none 0 0] 27))
     have n4:=New.kept n4 ((Kept.refl Wa9).alloc (.cells #[.bool false,.slice none 0 0] 27))
     have KT:=KT.then ((Kept.refl Wa9).alloc (.cells #[.bool false,.slice none 0 0] 27))
     have hF:=Flag.kept hF ((Kept.refl Wa9).alloc (.cells #[.bool false,.slice none 0 0] 27))
     obtain ⟨p13,hpp13⟩:∃ p,p = Wa9.heap.size:=⟨_,rfl⟩
     rw [<- hpp13] at zp13 hkp13 hgp13 dp13p12 dp12p13 ⊢
     generalize Wa9.alloc (.cells #[.bool false,.slice none 0 0] 27) = Wa10 at zp13 zp12 n1 n3 n4 KT hF hHeld ⊢
     clear hpp13
     have cp120:=zp12.c0
     have cp121:=zp12.c1
     have gp120:=zp12.fz 0
     have gp121:=zp12.fz 1
     refine rdy 11 fun K hK => ?_
     go_simp
     refine hK.out _ _ (sS.out _ (KT.set2 hgp12 _ _)) (fun hHeld => ?_)
     clear hK K
     have ep12:=set2_at (x:=(.bool s3)) (y:=(.slice aq3 kq3 cq3)) cp120 cp121
     have n1:=New.box2 n1 zp12 (.bool s3) (.slice aq3 kq3 cq3)
     have n3:=New.box2 n3 zp12 (.bool s3) (.slice aq3 kq3 cq3)
     have n4:=New.box2 n4 zp12 (.bool s3) (.slice aq3 kq3 cq3)
     have KT:=KT.set2 hgp12 (.bool s3) (.slice aq3 kq3 cq3)
     have hF:=Flag.set2 hF hkp12 (.bool s3) (.slice aq3 kq3 cq3)
     have zp13:=zp13.far dp13p12 (.bool s3) (.slice aq3 kq3 cq3)
     clear cp120 cp121 gp120 gp121
     generalize ((Wa10.setCell ⟨p12,0,none⟩ (.bool s3)).setCell ⟨p12,1,none⟩ (.slice aq3 kq3 cq3)) = Ws0 at ep12 zp13 n1 n3 n4 KT hF hHeld ⊢
     have cp130:=zp13.c0
     have cp131:=zp13.c1
     have gp130:=zp13.fz 0
     have gp131:=zp13.fz 1
     refine rdy 12 fun K hK => ?_
     go_simp
     refine hK.out _ _ (sS.out _ (KT.set2 hgp13 _ _)) (fun hHeld => ?_)
     clear hK K
     have ep13:=set2_at (x:=(.bool t3)) (y:=(.slice ar3 kr3 cr3)) cp130 cp131
     have ep12:=And.intro (set2_far (x:=(.bool t3)) (y:=(.slice ar3 kr3 cr3)) ep12.1 dp13p12) (set2_far (x:=(.bool t3)) (y:=(.slice ar3 kr3 cr3)) ep12.2 dp13p12)
     have n1:=New.box2 n1 zp13 (.bool t3) (.slice ar3 kr3 cr3)
     have n3:=New.box2 n3 zp13 (.bool t3) (.slice ar3 kr3 cr3)
     have n4:=New.box2 n4 zp13 (.bool t3) (.slice ar3 kr3 cr3)
     have KT:=KT.set2 hgp13 (.bool t3) (.slice ar3 kr3 cr3)
     have hF:=Flag.set2 hF hkp13 (.bool t3) (.slice ar3 kr3 cr3)
     clear cp130 cp131 gp130 gp131
     generalize ((Ws0.setCell ⟨p13,0,none⟩ (.bool t3)).setCell ⟨p13,1,none⟩ (.slice ar3 kr3 cr3)) = Ws1 at ep12 ep13  n1 n3 n4 KT hF hHeld ⊢
     have bp12:=Box.mk hF hkp12 ep12.1 ep12.2 n3.sl
     have bp13:=Box.mk hF hkp13 ep13.1 ep13.2 n4.sl
     refine dn ?_
     go_wp2_with fail
     go_meet
     case rel => exact ⟨p12,p13,s3,t3,aq3,ar3,kq3,cq3,kr3,cr3,rfl,rfl,KT,x1,q3,r3,hF,bp12,bp13,n4,HX3.out.1,HX3.out.2.1,hgp12,hgp13,fun h => ⟨fun hx => HX1.out.2.2.1 hx h,by rw [HX3.out.2.2.1,HX1.out.2.2.2.1 h],by rw [HX3.out.2.2.2,HX1.out.2.2.2.1 h]⟩,fun h => (HX1.out.2.1 h).1⟩
    refine AllReadyH.cons rfl (fun K hK => ?_) AllReadyH.nil
    go_simp
    refine hK.out _ _ (sS.out _ (KT.then ((Kept.refl w3).alloc _))) (fun hHeld => ?_)
    clear hK K
    have zp13:ZBox (w3.alloc (.cells #[.bool false,.slice none 0 0] 27)) w3.heap.size:=ZBox.alloc _
    have hkp13:w3.heap.size ≠ kb:=by have:=hF.lt; omega
    have hgp13:W.heap.size<=w3.heap.size:=KT.size
    have n1:=New.kept n1 ((Kept.refl w3).alloc (.cells #[.bool false,.slice none 0 0] 27))
    have n3:=New.kept n3 ((Kept.refl w3).alloc (.cells #[.bool false,.slice none 0 0] 27))
    have n4:=New.kept n4 ((Kept.refl w3).alloc (.cells #[.bool false,.slice none 0 0] 27))
    have KT:=KT.then ((Kept.refl w3).alloc (.cells #[.bool false,.slice none 0 0] 27))
    have hF:=Flag.kept hF ((Kept.refl w3).alloc (.cells #[.bool false,.slice none 0 0] 27))
    obtain ⟨p13,hpp13⟩:∃ p,p = w3.heap.size:=⟨_,rfl⟩
    rw [<- hpp13] at zp13 hkp13 hgp13  ⊢
    generalize w3.alloc (.cells #[.bool false,.slice none 0 0] 27) = Wa10 at zp13  n1 n3 n4 KT hF hHeld ⊢
    clear hpp13
    refine rdy 9 fun K hK => ?_
    go_simp
    refine hK.out _ _ (sS.out _ (KT.then ((Kept.refl Wa10).alloc _))) (fun hHeld => ?_)
    clear hK K
    have zp12:ZBox (Wa10.alloc (.cells #[.bool false,.slice none 0 0] 27)) Wa10.heap.size:=ZBox.alloc _
    have hkp12:Wa10.heap.size ≠ kb:=by have:=hF.lt; omega
    have hgp12:W.heap.size<=Wa10.heap.size:=KT.size
    have dp12p13:¬ (Wa10.heap.size = p13):=by have:=zp13.lt; omega
    have dp13p12:¬ (p13 = Wa10.heap.size):=by have:=zp13.lt; omega
    have zp13:=zp13.kept ((Kept.refl Wa10).alloc (.cells #[.bool false,.slice none 0 0] 27))
    have n1:=New.kept n1 ((Kept.refl Wa10).alloc (.cells #[.bool false,.slice none 0 0] 27))
    have n3:=New.kept n3 ((Kept.refl Wa10).alloc (.cells #[.bool false,.slice none 0 0] 27))
    have n4:=New.kept n4 ((Kept.refl Wa10).alloc (.cells #[.bool false,.slice none 0 0] 27))
    have KT:=KT.then ((Kept.refl Wa10).alloc (.cells #[.bool false,.slice none 0 0] 27))
    have hF:=Flag.kept hF ((Kept.refl Wa10).alloc (.cells #[.bool false,.slice none 0 0] 27))
    obtain ⟨p12,hpp12⟩:∃ p,p = Wa10.heap.size:=⟨_,rfl⟩
    rw [<- hpp12] at zp12 hkp12 hgp12 dp12p13 dp13p12 ⊢
    generalize Wa10.alloc (.cells #[.bool false,.slice none 0 0] 27) = Wa9 at zp12 zp13 n1 n3 n4 KT hF hHeld ⊢
    clear hpp12
    have cp120:=zp12.c0
    have cp121:=zp12.c1
    have gp120:=zp12.fz 0
    have gp121:=zp12.fz 1
    refine rdy 11 fun K hK => ?_
    go_simp
    refine hK.out _ _ (sS.out _ (KT.set2 hgp12 _ _)) (fun hHeld => ?_)
    clear hK K
    have ep12:=set2_at (x:=(.bool s3)) (y:=(.slice aq3 kq3 cq3)) cp120 cp121
    have n1:=New.box2 n1 zp12 (.bool s3) (.slice aq3 kq3 cq3)
    have n3:=New.box2 n3 zp12 (.bool s3) (.slice aq3 kq3 cq3)
    have n4:=New.box2 n4 zp12 (.bool s3) (.slice aq3 kq3 cq3)
    have KT:=KT.set2 hgp12 (.bool s3) (.slice aq3 kq3 cq3)
    have hF:=Flag.set2 hF hkp12 (.bool s3) (.slice aq3 kq3 cq3)
    have zp13:=zp13.far dp13p12 (.bool s3) (.slice aq3 kq3 cq3)
    clear cp120 cp121 gp120 gp121
    generalize ((Wa9.setCell ⟨p12,0,none⟩ (.bool s3)).setCell ⟨p12,1,none⟩ (.slice aq3 kq3 cq3)) = Ws0 at ep12 zp13 n1 n3 n4 KT hF hHeld ⊢
    have cp130:=zp13.c0
    have cp131:=zp13.c1
    have gp130:=zp13.fz 0
    have gp131:=zp13.fz 1
    refine rdy 12 fun K hK => ?_
    go_simp
    refine hK.out _ _ (sS.out _ (KT.set2 hgp13 _ _)) (fun hHeld => ?_)
    clear hK K
    have ep13:=set2_at (x:=(.bool t3)) (y:=(.slice ar3 kr3 cr3)) cp130 cp131
    have ep12:=And.intro (set2_far (x:=(.bool t3)) (y:=(.slice ar3 kr3 cr3)) ep12.1 dp13p12) (set2_far (x:=(.bool t3)) (y:=(.slice ar3 kr3 cr3)) ep12.2 dp13p12)
    have n1:=New.box2 n1 zp13 (.bool t3) (.slice ar3 kr3 cr3)
    have n3:=New.box2 n3 zp13 (.bool t3) (.slice ar3 kr3 cr3)
    have n4:=New.box2 n4 zp13 (.bool t3) (.slice ar3 kr3 cr3)
    have KT:=KT.set2 hgp13 (.bool t3) (.slice ar3 kr3 cr3)
    have hF:=Flag.set2 hF hkp13 (.bool t3) (.slice ar3 kr3 cr3)
    clear cp130 cp131 gp130 gp131
    generalize ((Ws0.setCell ⟨p13,0,none⟩ (.bool t3)).setCell ⟨p13,1,none⟩ (.slice ar3 kr3 cr3)) = Ws1 at ep12 ep13  n1 n3 n4 KT hF hHeld ⊢
    have bp12:=Box.mk hF hkp12 ep12.1 ep12.2 n3.sl
    have bp13:=Box.mk hF hkp13 ep13.1 ep13.2 n4.sl
    refine dn ?_
    go_wp2_with fail
    go_meet
    case rel => exact ⟨p12,p13,s3,t3,aq3,ar3,kq3,cq3,kr3,cr3,rfl,rfl,KT,x1,q3,r3,hF,bp12,bp13,n4,HX3.out.1,HX3.out.2.1,hgp12,hgp13,fun h => ⟨fun hx => HX1.out.2.2.1 hx h,by rw [HX3.out.2.2.1,HX1.out.2.2.2.1 h],by rw [HX3.out.2.2.2,HX1.out.2.2.2.1 h]⟩,fun h => (HX1.out.2.1 h).1⟩
   refine AllReadyH.cons rfl (fun K hK => ?_) ?_
   ·
    go_simp
    refine hK.out _ _ (sS.out _ (KT.then ((Kept.refl w2).alloc _))) (fun hHeld => ?_)
    clear hK K
    have zp12:ZBox (w2.alloc (.cells #[.bool false,.slice none 0 0] 27)) w2.heap.size:=ZBox.alloc _
    have hkp12:w2.heap.size ≠ kb:=by have:=hF.lt; omega
    have hgp12:W.heap.size<=w2.heap.size:=KT.size
    have n1:=New.kept n1 ((Kept.refl w2).alloc (.cells #[.bool false,.slice none 0 0] 27))
    have KT:=KT.then ((Kept.refl w2).alloc (.cells #[.bool false,.slice none 0 0] 27))
    have hF:=Flag.kept hF ((Kept.refl w2).alloc (.cells #[.bool false,.slice none 0 0] 27))
    obtain ⟨p12,hpp12⟩:∃ p,p = w2.heap.size:=⟨_,rfl⟩
    rw [<- hpp12] at zp12 hkp12 hgp12  ⊢
    generalize w2.alloc (.cells #[.bool false,.slice none 0 0] 27) = Wa9 at zp12  n1 KT hF hHeld ⊢
    clear hpp12
    refine wpAnyH_ready (rs:=[5,10]) (by kernel_rfl) (by simp) ?_
    refine AllReadyH.cons rfl (fun K hK => ?_) ?_
    ·
     go_simp
     refine (quoRem_r s1 false (.slice ao1 k1 c1) (.slice aod kd cd) l1 d _ n1.sl (B7.sl KT) (R.of_right HX1.out.1) HR.out.2.2.1 HR.out.2.2.2).mono ?_
     rintro e w3 ⟨hk3,s3,aq3,kq3,cq3,q3,t3,ar3,kr3,cr3,r3,rfl,n3,n4,hrq3,hrr3,hq3,hr3⟩
     have n3:=n3.mono KT.size
     have n4:=n4.mono KT.size
     have HX3:=hid (And.intro hrq3 (And.intro hrr3 (And.intro hq3 hr3)))
     clear hrq3 hrr3 hq3 hr3
     refine hK.out _ _ (sS.out _ (KT.then hk3)) (fun hHeld => ?_)
     clear hK K
     have zp12:=zp12.kept hk3
     have n1:=New.kept n1 hk3
     have KT:=(KT.then hk3)
     have hF:=Flag.kept hF hk3
     refine wk 6 hHeld ?_
     refine wk 7 hHeld ?_
     refine wk 8 hHeld ?_
     refine rdy 10 fun K hK => ?_
     go_simp
     refine hK.out _ _ (sS.out _ (KT.then ((Kept.refl w3).alloc _))) (fun hHeld => ?_)
     clear hK K
     have zp13:ZBox (w3.alloc (.cells #[.bool false,.slice none 0 0] 27)) w3.heap.size:=ZBox.alloc _
     have hkp13:w3.heap.size ≠ kb:=by have:=hF.lt; omega
     have hgp13:W.heap.size<=w3.heap.size:=KT.size
     have dp13p12:¬ (w3.heap.size = p12):=by have:=zp12.lt; omega
     have dp12p13:¬ (p12 = w3.heap.size):=by have:=zp12.lt; omega
     have zp12:=zp12.kept ((Kept.refl w3).alloc (.cells #[.bool false,.slice none 0 0] 27))
     have n1:=New.kept n1 ((Kept.refl w3).alloc (.cells #[.bool false,.slice none 0 0] 27))
     have n3:=New.kept n3 ((Kept.refl w3).alloc (.cells #[.bool false,.slice none 0 0] 27))
     have n4:=New.kept n4 ((Kept.refl w3).alloc (.cells #[.bool false,.slice none 0 0] 27))
     have KT:=KT.then ((Kept.refl w3).alloc (.cells #[.bool false,.slice none 0 0] 27))
     have hF:=Flag.kept hF ((Kept.refl w3).alloc (.cells #[.bool false,.slice none 0 0] 27))
     obtain ⟨p13,hpp13⟩:∃ p,p = w3.heap.size:=⟨_,rfl⟩
     rw [<- hpp13] at zp13 hkp13 hgp13 dp13p12 dp12p13 ⊢
     generalize w3.alloc (.cells #[.bool false,.slice none 0 0] 27) = Wa10 at zp13 zp12 n1 n3 n4 KT hF hHeld ⊢
     clear hpp13
     have cp120:=zp12.c0
     have cp121:=zp12.c1
     have gp120:=zp12.fz 0
     have gp121:=zp12.fz 1
     refine rdy 11 fun K hK => ?_
     go_simp
     refine hK.out _ _ (sS.out _ (KT.set2 hgp12 _ _)) (fun hHeld => ?_)
     clear hK K
     have ep12:=set2_at (x:=(.bool s3)) (y:=(.slice aq3 kq3 cq3)) cp120 cp121
     have n1:=New.box2 n1 zp12 (.bool s3) (.slice aq3 kq3 cq3)
     have n3:=New.box2 n3 zp12 (.bool s3) (.slice aq3 kq3 cq3)
     have n4:=New.box2 n4 zp12 (.bool s3) (.slice aq3 kq3 cq3)
     have KT:=KT.set2 hgp12 (.bool s3) (.slice aq3 kq3 cq3)
     have hF:=Flag.set2 hF hkp12 (.bool s3) (.slice aq3 kq3 cq3)
     have zp13:=zp13.far dp13p12 (.bool s3) (.slice aq3 kq3 cq3)
     clear cp120 cp121 gp120 gp121
     generalize ((Wa10.setCell ⟨p12,0,none⟩ (.bool s3)).setCell ⟨p12,1,none⟩ (.slice aq3 kq3 cq3)) = Ws0 at ep12 zp13 n1 n3 n4 KT hF hHeld ⊢
     have cp130:=zp13.c0
     have cp131:=zp13.c1
     have gp130:=zp13.fz 0
     have gp131:=zp13.fz 1
     refine rdy 12 fun K hK => ?_
     go_simp
     refine hK.out _ _ (sS.out _ (KT.set2 hgp13 _ _)) (fun hHeld => ?_)
     clear hK K
     have ep13:=set2_at (x:=(.bool t3)) (y:=(.slice ar3 kr3 cr3)) cp130 cp131
     have ep12:=And.intro (set2_far (x:=(.bool t3)) (y:=(.slice ar3 kr3 cr3)) ep12.1 dp13p12) (set2_far (x:=(.bool t3)) (y:=(.slice ar3 kr3 cr3)) ep12.2 dp13p12)
     have n1:=New.box2 n1 zp13 (.bool t3) (.slice ar3 kr3 cr3)
     have n3:=New.box2 n3 zp13 (.bool t3) (.slice ar3 kr3 cr3)
     have n4:=New.box2 n4 zp13 (.bool t3) (.slice ar3 kr3 cr3)
     have KT:=KT.set2 hgp13 (.bool t3) (.slice ar3 kr3 cr3)
     have hF:=Flag.set2 hF hkp13 (.bool t3) (.slice ar3 kr3 cr3)
     clear cp130 cp131 gp130 gp131
     generalize ((Ws0.setCell ⟨p13,0,none⟩ (.bool t3)).setCell ⟨p13,1,none⟩ (.slice ar3 kr3 cr3)) = Ws1 at ep12 ep13  n1 n3 n4 KT hF hHeld ⊢
     have bp12:=Box.mk hF hkp12 ep12.1 ep12.2 n3.sl
     have bp13:=Box.mk hF hkp13 ep13.1 ep13.2 n4.sl
     refine dn ?_
     go_wp2_with fail
     go_meet
     case rel => exact ⟨p12,p13,s3,t3,aq3,ar3,kq3,cq3,kr3,cr3,rfl,rfl,KT,x1,q3,r3,hF,bp12,bp13,n4,HX3.out.1,HX3.out.2.1,hgp12,hgp13,fun h => ⟨fun hx => HX1.out.2.2.1 hx h,by rw [HX3.out.2.2.1,HX1.out.2.2.2.1 h],by rw [HX3.out.2.2.2,HX1.out.2.2.2.1 h]⟩,fun h => (HX1.out.2.1 h).1⟩
    refine AllReadyH.cons rfl (fun K hK => ?_) AllReadyH.nil
    go_simp
    refine hK.out _ _ (sS.out _ (KT.then ((Kept.refl Wa9).alloc _))) (fun hHeld => ?_)
    clear hK K
    have zp13:ZBox (Wa9.alloc (.cells #[.bool false,.slice none 0 0] 27)) Wa9.heap.size:=ZBox.alloc _
    have hkp13:Wa9.heap.size ≠ kb:=by have:=hF.lt; omega
    have hgp13:W.heap.size<=Wa9.heap.size:=KT.size
    have dp13p12:¬ (Wa9.heap.size = p12):=by have:=zp12.lt; omega
    have dp12p13:¬ (p12 = Wa9.heap.size):=by have:=zp12.lt; omega
    have zp12:=zp12.kept ((Kept.refl Wa9).alloc (.cells #[.bool false,.slice none 0 0] 27))
    have n1:=New.kept n1 ((Kept.refl Wa9).alloc (.cells #[.bool false,.slice none 0 0] 27))
    have KT:=KT.then ((Kept.refl Wa9).alloc (.cells #[.bool false,.slice none 0 0] 27))
    have hF:=Flag.kept hF ((Kept.refl Wa9).alloc (.cells #[.bool false,.slice none 0 0] 27))
    obtain ⟨p13,hpp13⟩:∃ p,p = Wa9.heap.size:=⟨_,rfl⟩
    rw [<- hpp13] at zp13 hkp13 hgp13 dp13p12 dp12p13 ⊢
    generalize Wa9.alloc (.cells #[.bool false,.slice none 0 0] 27) = Wa10 at zp13 zp12 n1 KT hF hHeld ⊢
    clear hpp13
    refine rdy 5 fun K hK => ?_
    go_simp
    refine (quoRem_r s1 false (.slice ao1 k1 c1) (.slice aod kd cd) l1 d _ n1.sl (B7.sl KT) (R.of_right HX1.out.1) HR.out.2.2.1 HR.out.2.2.2).mono ?_
    rintro e w3 ⟨hk3,s3,aq3,kq3,cq3,q3,t3,ar3,kr3,cr3,r3,rfl,n3,n4,hrq3,hrr3,hq3,hr3⟩
    have n3:=n3.mono KT.size
    have n4:=n4.mono KT.size
    have HX3:=hid (And.intro hrq3 (And.intro hrr3 (And.intro hq3 hr3)))
    clear hrq3 hrr3 hq3 hr3
    refine hK.out _ _ (sS.out _ (KT.then hk3)) (fun hHeld => ?_)
    clear hK K
    have zp12:=zp12.kept hk3
    have zp13:=zp13.kept hk3
    have n1:=New.kept n1 hk3
    have KT:=(KT.then hk3)
    have hF:=Flag.kept hF hk3
    refine wk 6 hHeld ?_
    refine wk 7 hHeld ?_
    refine wk 8 hHeld ?_
    have cp120:=zp12.c0
    have cp121:=zp12.c1
    have gp120:=zp12.fz 0
    have gp121:=zp12.fz 1
    refine rdy 11 fun K hK => ?_
    go_simp
    refine hK.out _ _ (sS.out _ (KT.set2 hgp12 _ _)) (fun hHeld => ?_)
    clear hK K
    have ep12:=set2_at (x:=(.bool s3)) (y:=(.slice aq3 kq3 cq3)) cp120 cp121
    have n1:=New.box2 n1 zp12 (.bool s3) (.slice aq3 kq3 cq3)
    have n3:=New.box2 n3 zp12 (.bool s3) (.slice aq3 kq3 cq3)
    have n4:=New.box2 n4 zp12 (.bool s3) (.slice aq3 kq3 cq3)
    have KT:=KT.set2 hgp12 (.bool s3) (.slice aq3 kq3 cq3)
    have hF:=Flag.set2 hF hkp12 (.bool s3) (.slice aq3 kq3 cq3)
    have zp13:=zp13.far dp13p12 (.bool s3) (.slice aq3 kq3 cq3)
    clear cp120 cp121 gp120 gp121
    generalize ((w3.setCell ⟨p12,0,none⟩ (.bool s3)).setCell ⟨p12,1,none⟩ (.slice aq3 kq3 cq3)) = Ws0 at ep12 zp13 n1 n3 n4 KT hF hHeld ⊢
    have cp130:=zp13.c0
    have cp131:=zp13.c1
    have gp130:=zp13.fz 0
    have gp131:=zp13.fz 1
    refine rdy 12 fun K hK => ?_
    go_simp
    refine hK.out _ _ (sS.out _ (KT.set2 hgp13 _ _)) (fun hHeld => ?_)
    clear hK K
    have ep13:=set2_at (x:=(.bool t3)) (y:=(.slice ar3 kr3 cr3)) cp130 cp131
    have ep12:=And.intro (set2_far (x:=(.bool t3)) (y:=(.slice ar3 kr3 cr3)) ep12.1 dp13p12) (set2_far (x:=(.bool t3)) (y:=(.slice ar3 kr3 cr3)) ep12.2 dp13p12)
    have n1:=New.box2 n1 zp13 (.bool t3) (.slice ar3 kr3 cr3)
    have n3:=New.box2 n3 zp13 (.bool t3) (.slice ar3 kr3 cr3)
    have n4:=New.box2 n4 zp13 (.bool t3) (.slice ar3 kr3 cr3)
    have KT:=KT.set2 hgp13 (.bool t3) (.slice ar3 kr3 cr3)
    have hF:=Flag.set2 hF hkp13 (.bool t3) (.slice ar3 kr3 cr3)
    clear cp130 cp131 gp130 gp131
    generalize ((Ws0.setCell ⟨p13,0,none⟩ (.bool t3)).setCell ⟨p13,1,none⟩ (.slice ar3 kr3 cr3)) = Ws1 at ep12 ep13  n1 n3 n4 KT hF hHeld ⊢
    have bp12:=Box.mk hF hkp12 ep12.1 ep12.2 n3.sl
    have bp13:=Box.mk hF hkp13 ep13.1 ep13.2 n4.sl
    refine dn ?_
    go_wp2_with fail
    go_meet
    case rel => exact ⟨p12,p13,s3,t3,aq3,ar3,kq3,cq3,kr3,cr3,rfl,rfl,KT,x1,q3,r3,hF,bp12,bp13,n4,HX3.out.1,HX3.out.2.1,hgp12,hgp13,fun h => ⟨fun hx => HX1.out.2.2.1 hx h,by rw [HX3.out.2.2.1,HX1.out.2.2.2.1 h],by rw [HX3.out.2.2.2,HX1.out.2.2.2.1 h]⟩,fun h => (HX1.out.2.1 h).1⟩
   refine AllReadyH.cons rfl (fun K hK => ?_) AllReadyH.nil
   go_simp
   refine hK.out _ _ (sS.out _ (KT.then ((Kept.refl w2).alloc _))) (fun hHeld => ?_)
   clear hK K
   have zp13:ZBox (w2.alloc (.cells #[.bool false,.slice none 0 0] 27)) w2.heap.size:=ZBox.alloc _
   have hkp13:w2.heap.size ≠ kb:=by have:=hF.lt; omega
   have hgp13:W.heap.size<=w2.heap.size:=KT.size
   have n1:=New.kept n1 ((Kept.refl w2).alloc (.cells #[.bool false,.slice none 0 0] 27))
   have KT:=KT.then ((Kept.refl w2).alloc (.cells #[.bool false,.slice none 0 0] 27))
   have hF:=Flag.kept hF ((Kept.refl w2).alloc (.cells #[.bool false,.slice none 0 0] 27))
   obtain ⟨p13,hpp13⟩:∃ p,p = w2.heap.size:=⟨_,rfl⟩
   rw [<- hpp13] at zp13 hkp13 hgp13  ⊢
   generalize w2.alloc (.cells #[.bool false,.slice none 0 0] 27) = Wa10 at zp13  n1 KT hF hHeld ⊢
   clear hpp13
   refine wpAnyH_ready (rs:=[5,9]) (by kernel_rfl) (by simp) ?_
   refine AllReadyH.cons rfl (fun K hK => ?_) ?_
   ·
    go_simp
    refine (quoRem_r s1 false (.slice ao1 k1 c1) (.slice aod kd cd) l1 d _ n1.sl (B7.sl KT) (R.of_right HX1.out.1) HR.out.2.2.1 HR.out.2.2.2).mono ?_
    rintro e w3 ⟨hk3,s3,aq3,kq3,cq3,q3,t3,ar3,kr3,cr3,r3,rfl,n3,n4,hrq3,hrr3,hq3,hr3⟩
    have n3:=n3.mono KT.size
    have n4:=n4.mono KT.size
    have HX3:=hid (And.intro hrq3 (And.intro hrr3 (And.intro hq3 hr3)))
    clear hrq3 hrr3 hq3 hr3
    refine hK.out _ _ (sS.out _ (KT.then hk3)) (fun hHeld => ?_)
    clear hK K
    have zp13:=zp13.kept hk3
    have n1:=New.kept n1 hk3
    have KT:=(KT.then hk3)
    have hF:=Flag.kept hF hk3
    refine wk 6 hHeld ?_
    refine wk 7 hHeld ?_
    refine wk 8 hHeld ?_
    refine rdy 9 fun K hK => ?_
    go_simp
    refine hK.out _ _ (sS.out _ (KT.then ((Kept.refl w3).alloc _))) (fun hHeld => ?_)
    clear hK K
    have zp12:ZBox (w3.alloc (.cells #[.bool false,.slice none 0 0] 27)) w3.heap.size:=ZBox.alloc _
    have hkp12:w3.heap.size ≠ kb:=by have:=hF.lt; omega
    have hgp12:W.heap.size<=w3.heap.size:=KT.size
    have dp12p13:¬ (w3.heap.size = p13):=by have:=zp13.lt; omega
    have dp13p12:¬ (p13 = w3.heap.size):=by have:=zp13.lt; omega
    have zp13:=zp13.kept ((Kept.refl w3).alloc (.cells #[.bool false,.slice none 0 0] 27))
    have n1:=New.kept n1 ((Kept.refl w3).alloc (.cells #[.bool false,.slice none 0 0] 27))
    have n3:=New.kept n3 ((Kept.refl w3).alloc (.cells #[.bool false,.slice none 0 0] 27))
    have n4:=New.kept n4 ((Kept.refl w3).alloc (.cells #[.bool false,.slice none 0 0] 27))
    have KT:=KT.then ((Kept.refl w3).alloc (.cells #[.bool false,.slice none 0 0] 27))
    have hF:=Flag.kept hF ((Kept.refl w3).alloc (.cells #[.bool false,.slice none 0 0] 27))
    obtain ⟨p12,hpp12⟩:∃ p,p = w3.heap.size:=⟨_,rfl⟩
    rw [<- hpp12] at zp12 hkp12 hgp12 dp12p13 dp13p12 ⊢
    generalize w3.alloc (.cells #[.bool false,.slice none 0 0] 27) = Wa9 at zp12 zp13 n1 n3 n4 KT hF hHeld ⊢
    clear hpp12
    have cp120:=zp12.c0
    have cp121:=zp12.c1
    have gp120:=zp12.fz 0
    have gp121:=zp12.fz 1
    refine rdy 11 fun K hK => ?_
    go_simp
    refine hK.out _ _ (sS.out _ (KT.set2 hgp12 _ _)) (fun hHeld => ?_)
    clear hK K
    have ep12:=set2_at (x:=(.bool s3)) (y:=(.slice aq3 kq3 cq3)) cp120 cp121
    have n1:=New.box2 n1 zp12 (.bool s3) (.slice aq3 kq3 cq3)
    have n3:=New.box2 n3 zp12 (.bool s3) (.slice aq3 kq3 cq3)
    have n4:=New.box2 n4 zp12 (.bool s3) (.slice aq3 kq3 cq3)
    have KT:=KT.set2 hgp12 (.bool s3) (.slice aq3 kq3 cq3)
    have hF:=Flag.set2 hF hkp12 (.bool s3) (.slice aq3 kq3 cq3)
    have zp13:=zp13.far dp13p12 (.bool s3) (.slice aq3 kq3 cq3)
    clear cp120 cp121 gp120 gp121
    generalize ((Wa9.setCell ⟨p12,0,none⟩ (.bool s3)).setCell ⟨p12,1,none⟩ (.slice aq3 kq3 cq3)) = Ws0 at ep12 zp13 n1 n3 n4 KT hF hHeld ⊢
    have cp130:=zp13.c0
    have cp131:=zp13.c1
    have gp130:=zp13.fz 0
    have gp131:=zp13.fz 1
    refine rdy 12 fun K hK => ?_
    go_simp
    refine hK.out _ _ (sS.out _ (KT.set2 hgp13 _ _)) (fun hHeld => ?_)
    clear hK K
    have ep13:=set2_at (x:=(.bool t3)) (y:=(.slice ar3 kr3 cr3)) cp130 cp131
    have ep12:=And.intro (set2_far (x:=(.bool t3)) (y:=(.slice ar3 kr3 cr3)) ep12.1 dp13p12) (set2_far (x:=(.bool t3)) (y:=(.slice ar3 kr3 cr3)) ep12.2 dp13p12)
    have n1:=New.box2 n1 zp13 (.bool t3) (.slice ar3 kr3 cr3)
    have n3:=New.box2 n3 zp13 (.bool t3) (.slice ar3 kr3 cr3)
    have n4:=New.box2 n4 zp13 (.bool t3) (.slice ar3 kr3 cr3)
    have KT:=KT.set2 hgp13 (.bool t3) (.slice ar3 kr3 cr3)
    have hF:=Flag.set2 hF hkp13 (.bool t3) (.slice ar3 kr3 cr3)
    clear cp130 cp131 gp130 gp131
    generalize ((Ws0.setCell ⟨p13,0,none⟩ (.bool t3)).setCell ⟨p13,1,none⟩ (.slice ar3 kr3 cr3)) = Ws1 at ep12 ep13  n1 n3 n4 KT hF hHeld ⊢
    have bp12:=Box.mk hF hkp12 ep12.1 ep12.2 n3.sl
    have bp13:=Box.mk hF hkp13 ep13.1 ep13.2 n4.sl
    refine dn ?_
    go_wp2_with fail
    go_meet
    case rel => exact ⟨p12,p13,s3,t3,aq3,ar3,kq3,cq3,kr3,cr3,rfl,rfl,KT,x1,q3,r3,hF,bp12,bp13,n4,HX3.out.1,HX3.out.2.1,hgp12,hgp13,fun h => ⟨fun hx => HX1.out.2.2.1 hx h,by rw [HX3.out.2.2.1,HX1.out.2.2.2.1 h],by rw [HX3.out.2.2.2,HX1.out.2.2.2.1 h]⟩,fun h => (HX1.out.2.1 h).1⟩
   refine AllReadyH.cons rfl (fun K hK => ?_) AllReadyH.nil
   go_simp
   refine hK.out _ _ (sS.out _ (KT.then ((Kept.refl Wa10).alloc _))) (fun hHeld => ?_)
   clear hK K
   have zp12:ZBox (Wa10.alloc (.cells #[.bool false,.slice none 0 0] 27)) Wa10.heap.size:=ZBox.alloc _
   have hkp12:Wa10.heap.size ≠ kb:=by have:=hF.lt; omega
   have hgp12:W.heap.size<=Wa10.heap.size:=KT.size
   have dp12p13:¬ (Wa10.heap.size = p13):=by have:=zp13.lt; omega
   have dp13p12:¬ (p13 = Wa10.heap.size):=by have:=zp13.lt; omega
   have zp13:=zp13.kept ((Kept.refl Wa10).alloc (.cells #[.bool false,.slice none 0 0] 27))
   have n1:=New.kept n1 ((Kept.refl Wa10).alloc (.cells #[.bool false,.slice none 0 0] 27))
   have KT:=KT.then ((Kept.refl Wa10).alloc (.cells #[.bool false,.slice none 0 0] 27))
   have hF:=Flag.kept hF ((Kept.refl Wa10).alloc (.cells #[.bool false,.slice none 0 0] 27))
   obtain ⟨p12,hpp12⟩:∃ p,p = Wa10.heap.size:=⟨_,rfl⟩
   rw [<- hpp12] at zp12 hkp12 hgp12 dp12p13 dp13p12 ⊢
   generalize Wa10.alloc (.cells #[.bool false,.slice none 0 0] 27) = Wa9 at zp12 zp13 n1 KT hF hHeld ⊢
   clear hpp12
   refine rdy 5 fun K hK => ?_
   go_simp
   refine (quoRem_r s1 false (.slice ao1 k1 c1) (.slice aod kd cd) l1 d _ n1.sl (B7.sl KT) (R.of_right HX1.out.1) HR.out.2.2.1 HR.out.2.2.2).mono ?_
   rintro e w3 ⟨hk3,s3,aq3,kq3,cq3,q3,t3,ar3,kr3,cr3,r3,rfl,n3,n4,hrq3,hrr3,hq3,hr3⟩
   have n3:=n3.mono KT.size
   have n4:=n4.mono KT.size
   have HX3:=hid (And.intro hrq3 (And.intro hrr3 (And.intro hq3 hr3)))
   clear hrq3 hrr3 hq3 hr3
   refine hK.out _ _ (sS.out _ (KT.then hk3)) (fun hHeld => ?_)
   clear hK K
   have zp13:=zp13.kept hk3
   have zp12:=zp12.kept hk3
   have n1:=New.kept n1 hk3
   have KT:=(KT.then hk3)
   have hF:=Flag.kept hF hk3
   refine wk 6 hHeld ?_
   refine wk 7 hHeld ?_
   refine wk 8 hHeld ?_
   have cp120:=zp12.c0
   have cp121:=zp12.c1
   have gp120:=zp12.fz 0
   have gp121:=zp12.fz 1
   refine rdy 11 fun K hK => ?_
   go_simp
   refine hK.out _ _ (sS.out _ (KT.set2 hgp12 _ _)) (fun hHeld => ?_)
   clear hK K
   have ep12:=set2_at (x:=(.bool s3)) (y:=(.slice aq3 kq3 cq3)) cp120 cp121
   have n1:=New.box2 n1 zp12 (.bool s3) (.slice aq3 kq3 cq3)
   have n3:=New.box2 n3 zp12 (.bool s3) (.slice aq3 kq3 cq3)
   have n4:=New.box2 n4 zp12 (.bool s3) (.slice aq3 kq3 cq3)
   have KT:=KT.set2 hgp12 (.bool s3) (.slice aq3 kq3 cq3)
   have hF:=Flag.set2 hF hkp12 (.bool s3) (.slice aq3 kq3 cq3)
   have zp13:=zp13.far dp13p12 (.bool s3) (.slice aq3 kq3 cq3)
   clear cp120 cp121 gp120 gp121
   generalize ((w3.setCell ⟨p12,0,none⟩ (.bool s3)).setCell ⟨p12,1,none⟩ (.slice aq3 kq3 cq3)) = Ws0 at ep12 zp13 n1 n3 n4 KT hF hHeld ⊢
   have cp130:=zp13.c0
   have cp131:=zp13.c1
   have gp130:=zp13.fz 0
   have gp131:=zp13.fz 1
   refine rdy 12 fun K hK => ?_
   go_simp
   refine hK.out _ _ (sS.out _ (KT.set2 hgp13 _ _)) (fun hHeld => ?_)
   clear hK K
   have ep13:=set2_at (x:=(.bool t3)) (y:=(.slice ar3 kr3 cr3)) cp130 cp131
   have ep12:=And.intro (set2_far (x:=(.bool t3)) (y:=(.slice ar3 kr3 cr3)) ep12.1 dp13p12) (set2_far (x:=(.bool t3)) (y:=(.slice ar3 kr3 cr3)) ep12.2 dp13p12)
   have n1:=New.box2 n1 zp13 (.bool t3) (.slice ar3 kr3 cr3)
   have n3:=New.box2 n3 zp13 (.bool t3) (.slice ar3 kr3 cr3)
   have n4:=New.box2 n4 zp13 (.bool t3) (.slice ar3 kr3 cr3)
   have KT:=KT.set2 hgp13 (.bool t3) (.slice ar3 kr3 cr3)
   have hF:=Flag.set2 hF hkp13 (.bool t3) (.slice ar3 kr3 cr3)
   clear cp130 cp131 gp130 gp131
   generalize ((Ws0.setCell ⟨p13,0,none⟩ (.bool t3)).setCell ⟨p13,1,none⟩ (.slice ar3 kr3 cr3)) = Ws1 at ep12 ep13  n1 n3 n4 KT hF hHeld ⊢
   have bp12:=Box.mk hF hkp12 ep12.1 ep12.2 n3.sl
   have bp13:=Box.mk hF hkp13 ep13.1 ep13.2 n4.sl
   refine dn ?_
   go_wp2_with fail
   go_meet
   case rel => exact ⟨p12,p13,s3,t3,aq3,ar3,kq3,cq3,kr3,cr3,rfl,rfl,KT,x1,q3,r3,hF,bp12,bp13,n4,HX3.out.1,HX3.out.2.1,hgp12,hgp13,fun h => ⟨fun hx => HX1.out.2.2.1 hx h,by rw [HX3.out.2.2.1,HX1.out.2.2.2.1 h],by rw [HX3.out.2.2.2,HX1.out.2.2.2.1 h]⟩,fun h => (HX1.out.2.1 h).1⟩
  refine AllReadyH.cons rfl (fun K hK => ?_) ?_
  ·
   go_simp
   refine hK.out _ _ (sS.out _ (KT.then ((Kept.refl Wd).alloc _))) (fun hHeld => ?_)
   clear hK K
   have zp12:ZBox (Wd.alloc (.cells #[.bool false,.slice none 0 0] 27)) Wd.heap.size:=ZBox.alloc _
   have hkp12:Wd.heap.size ≠ kb:=by have:=hF.lt; omega
   have hgp12:W.heap.size<=Wd.heap.size:=KT.size
   have KT:=KT.then ((Kept.refl Wd).alloc (.cells #[.bool false,.slice none 0 0] 27))
   have hF:=Flag.kept hF ((Kept.refl Wd).alloc (.cells #[.bool false,.slice none 0 0] 27))
   obtain ⟨p12,hpp12⟩:∃ p,p = Wd.heap.size:=⟨_,rfl⟩
   rw [<- hpp12] at zp12 hkp12 hgp12  ⊢
   generalize Wd.alloc (.cells #[.bool false,.slice none 0 0] 27) = Wa9 at zp12   KT hF hHeld ⊢
   clear hpp12
   refine wpAnyH_ready (rs:=[3,10]) (by kernel_rfl) (by simp) ?_
   refine AllReadyH.cons rfl (fun K hK => ?_) ?_
   ·
    go_simp
    refine (mul_q kb x t n (.slice ar kr cr) (.slice aob kb' cb) r b _ hF (B11.sl KT) (B6.sl KT) (R.of_right HX.out.2.1) HR.out.2.1).mono ?_
    rintro e w2 ⟨hk2,x1,s1,ao1,k1,c1,l1,rfl,hF1,n1,hr1,hx1,hy1,hv1⟩
    have HX1:=hid (And.intro hr1 (And.intro hx1 (And.intro hy1 hv1)))
    clear hr1 hx1 hy1 hv1
    refine hK.out _ _ (sS.out _ (KT.trans hk2)) (fun hHeld => ?_)
    clear hK K
    have zp12:=zp12.keptK hkp12 hk2
    have KT:=(KT.trans hk2)
    have hF:=hF1
    refine wpAnyH_ready (rs:=[5,10]) (by kernel_rfl) (by simp) ?_
    refine AllReadyH.cons rfl (fun K hK => ?_) ?_
    ·
     go_simp
     refine (quoRem_r s1 false (.slice ao1 k1 c1) (.slice aod kd cd) l1 d _ n1.sl (B7.sl KT) (R.of_right HX1.out.1) HR.out.2.2.1 HR.out.2.2.2).mono ?_
     rintro e w3 ⟨hk3,s3,aq3,kq3,cq3,q3,t3,ar3,kr3,cr3,r3,rfl,n3,n4,hrq3,hrr3,hq3,hr3⟩
     have n3:=n3.mono KT.size
     have n4:=n4.mono KT.size
     have HX3:=hid (And.intro hrq3 (And.intro hrr3 (And.intro hq3 hr3)))
     clear hrq3 hrr3 hq3 hr3
     refine hK.out _ _ (sS.out _ (KT.then hk3)) (fun hHeld => ?_)
     clear hK K
     have zp12:=zp12.kept hk3
     have n1:=New.kept n1 hk3
     have KT:=(KT.then hk3)
     have hF:=Flag.kept hF hk3
     refine wk 6 hHeld ?_
     refine wk 7 hHeld ?_
     refine wk 8 hHeld ?_
     refine rdy 10 fun K hK => ?_
     go_simp
     refine hK.out _ _ (sS.out _ (KT.then ((Kept.refl w3).alloc _))) (fun hHeld => ?_)
     clear hK K
     have zp13:ZBox (w3.alloc (.cells #[.bool false,.slice none 0 0] 27)) w3.heap.size:=ZBox.alloc _
     have hkp13:w3.heap.size ≠ kb:=by have:=hF.lt; omega
     have hgp13:W.heap.size<=w3.heap.size:=KT.size
     have dp13p12:¬ (w3.heap.size = p12):=by have:=zp12.lt; omega
     have dp12p13:¬ (p12 = w3.heap.size):=by have:=zp12.lt; omega
     have zp12:=zp12.kept ((Kept.refl w3).alloc (.cells #[.bool false,.slice none 0 0] 27))
     have n1:=New.kept n1 ((Kept.refl w3).alloc (.cells #[.bool false,.slice none 0 0] 27))
     have n3:=New.kept n3 ((Kept.refl w3).alloc (.cells #[.bool false,.slice none 0 0] 27))
     have n4:=New.kept n4 ((Kept.refl w3).alloc (.cells #[.bool false,.slice none 0 0] 27))
     have KT:=KT.then ((Kept.refl w3).alloc (.cells #[.bool false,.slice none 0 0] 27))
     have hF:=Flag.kept hF ((Kept.refl w3).alloc (.cells #[.bool false,.slice none 0 0] 27))
     obtain ⟨p13,hpp13⟩:∃ p,p = w3.heap.size:=⟨_,rfl⟩
     rw [<- hpp13] at zp13 hkp13 hgp13 dp13p12 dp12p13 ⊢
     generalize w3.alloc (.cells #[.bool false,.slice none 0 0] 27) = Wa10 at zp13 zp12 n1 n3 n4 KT hF hHeld ⊢
     clear hpp13
     have cp120:=zp12.c0
     have cp121:=zp12.c1
     have gp120:=zp12.fz 0
     have gp121:=zp12.fz 1
     refine rdy 11 fun K hK => ?_
     go_simp
     refine hK.out _ _ (sS.out _ (KT.set2 hgp12 _ _)) (fun hHeld => ?_)
     clear hK K
     have ep12:=set2_at (x:=(.bool s3)) (y:=(.slice aq3 kq3 cq3)) cp120 cp121
     have n1:=New.box2 n1 zp12 (.bool s3) (.slice aq3 kq3 cq3)
     have n3:=New.box2 n3 zp12 (.bool s3) (.slice aq3 kq3 cq3)
     have n4:=New.box2 n4 zp12 (.bool s3) (.slice aq3 kq3 cq3)
     have KT:=KT.set2 hgp12 (.bool s3) (.slice aq3 kq3 cq3)
     have hF:=Flag.set2 hF hkp12 (.bool s3) (.slice aq3 kq3 cq3)
     have zp13:=zp13.far dp13p12 (.bool s3) (.slice aq3 kq3 cq3)
     clear cp120 cp121 gp120 gp121
     generalize ((Wa10.setCell ⟨p12,0,none⟩ (.bool s3)).setCell ⟨p12,1,none⟩ (.slice aq3 kq3 cq3)) = Ws0 at ep12 zp13 n1 n3 n4 KT hF hHeld ⊢
     have cp130:=zp13.c0
     have cp131:=zp13.c1
     have gp130:=zp13.fz 0
     have gp131:=zp13.fz 1
     refine rdy 12 fun K hK => ?_
     go_simp
     refine hK.out _ _ (sS.out _ (KT.set2 hgp13 _ _)) (fun hHeld => ?_)
     clear hK K
     have ep13:=set2_at (x:=(.bool t3)) (y:=(.slice ar3 kr3 cr3)) cp130 cp131
     have ep12:=And.intro (set2_far (x:=(.bool t3)) (y:=(.slice ar3 kr3 cr3)) ep12.1 dp13p12) (set2_far (x:=(.bool t3)) (y:=(.slice ar3 kr3 cr3)) ep12.2 dp13p12)
     have n1:=New.box2 n1 zp13 (.bool t3) (.slice ar3 kr3 cr3)
     have n3:=New.box2 n3 zp13 (.bool t3) (.slice ar3 kr3 cr3)
     have n4:=New.box2 n4 zp13 (.bool t3) (.slice ar3 kr3 cr3)
     have KT:=KT.set2 hgp13 (.bool t3) (.slice ar3 kr3 cr3)
     have hF:=Flag.set2 hF hkp13 (.bool t3) (.slice ar3 kr3 cr3)
     clear cp130 cp131 gp130 gp131
     generalize ((Ws0.setCell ⟨p13,0,none⟩ (.bool t3)).setCell ⟨p13,1,none⟩ (.slice ar3 kr3 cr3)) = Ws1 at ep12 ep13  n1 n3 n4 KT hF hHeld ⊢
     have bp12:=Box.mk hF hkp12 ep12.1 ep12.2 n3.sl
     have bp13:=Box.mk hF hkp13 ep13.1 ep13.2 n4.sl
     refine dn ?_
     go_wp2_with fail
     go_meet
     case rel => exact ⟨p12,p13,s3,t3,aq3,ar3,kq3,cq3,kr3,cr3,rfl,rfl,KT,x1,q3,r3,hF,bp12,bp13,n4,HX3.out.1,HX3.out.2.1,hgp12,hgp13,fun h => ⟨fun hx => HX1.out.2.2.1 hx h,by rw [HX3.out.2.2.1,HX1.out.2.2.2.1 h],by rw [HX3.out.2.2.2,HX1.out.2.2.2.1 h]⟩,fun h => (HX1.out.2.1 h).1⟩
    refine AllReadyH.cons rfl (fun K hK => ?_) AllReadyH.nil
    go_simp
    refine hK.out _ _ (sS.out _ (KT.then ((Kept.refl w2).alloc _))) (fun hHeld => ?_)
    clear hK K
    have zp13:ZBox (w2.alloc (.cells #[.bool false,.slice none 0 0] 27)) w2.heap.size:=ZBox.alloc _
    have hkp13:w2.heap.size ≠ kb:=by have:=hF.lt; omega
    have hgp13:W.heap.size<=w2.heap.size:=KT.size
    have dp13p12:¬ (w2.heap.size = p12):=by have:=zp12.lt; omega
    have dp12p13:¬ (p12 = w2.heap.size):=by have:=zp12.lt; omega
    have zp12:=zp12.kept ((Kept.refl w2).alloc (.cells #[.bool false,.slice none 0 0] 27))
    have n1:=New.kept n1 ((Kept.refl w2).alloc (.cells #[.bool false,.slice none 0 0] 27))
    have KT:=KT.then ((Kept.refl w2).alloc (.cells #[.bool false,.slice none 0 0] 27))
    have hF:=Flag.kept hF ((Kept.refl w2).alloc (.cells #[.bool false,.slice none 0 0] 27))
    obtain ⟨p13,hpp13⟩:∃ p,p = w2.heap.size:=⟨_,rfl⟩
    rw [<- hpp13] at zp13 hkp13 hgp13 dp13p12 dp12p13 ⊢
    generalize w2.alloc (.cells #[.bool false,.slice none 0 0] 27) = Wa10 at zp13 zp12 n1 KT hF hHeld ⊢
    clear hpp13
    refine rdy 5 fun K hK => ?_
    go_simp
    refine (quoRem_r s1 false (.slice ao1 k1 c1) (.slice aod kd cd) l1 d _ n1.sl (B7.sl KT) (R.of_right HX1.out.1) HR.out.2.2.1 HR.out.2.2.2).mono ?_
    rintro e w3 ⟨hk3,s3,aq3,kq3,cq3,q3,t3,ar3,kr3,cr3,r3,rfl,n3,n4,hrq3,hrr3,hq3,hr3⟩
    have n3:=n3.mono KT.size
    have n4:=n4.mono KT.size
    have HX3:=hid (And.intro hrq3 (And.intro hrr3 (And.intro hq3 hr3)))
    clear hrq3 hrr3 hq3 hr3
    refine hK.out _ _ (sS.out _ (KT.then hk3)) (fun hHeld => ?_)
    clear hK K
    have zp12:=zp12.kept hk3
    have zp13:=zp13.kept hk3
    have n1:=New.kept n1 hk3
    have KT:=(KT.then hk3)
    have hF:=Flag.kept hF hk3
    refine wk 6 hHeld ?_
    refine wk 7 hHeld ?_
    refine wk 8 hHeld ?_
    have cp120:=zp12.c0
    have cp121:=zp12.c1
    have gp120:=zp12.fz 0
    have gp121:=zp12.fz 1
    refine rdy 11 fun K hK => ?_
    go_simp
    refine hK.out _ _ (sS.out _ (KT.set2 hgp12 _ _)) (fun hHeld => ?_)
    clear hK K
    have ep12:=set2_at (x:=(.bool s3)) (y:=(.slice aq3 kq3 cq3)) cp120 cp121
    have n1:=New.box2 n1 zp12 (.bool s3) (.slice aq3 kq3 cq3)
    have n3:=New.box2 n3 zp12 (.bool s3) (.slice aq3 kq3 cq3)
    have n4:=New.box2 n4 zp12 (.bool s3) (.slice aq3 kq3 cq3)
    have KT:=KT.set2 hgp12 (.bool s3) (.slice aq3 kq3 cq3)
    have hF:=Flag.set2 hF hkp12 (.bool s3) (.slice aq3 kq3 cq3)
    have zp13:=zp13.far dp13p12 (.bool s3) (.slice aq3 kq3 cq3)
    clear cp120 cp121 gp120 gp121
    generalize ((w3.setCell ⟨p12,0,none⟩ (.bool s3)).setCell ⟨p12,1,none⟩ (.slice aq3 kq3 cq3)) = Ws0 at ep12 zp13 n1 n3 n4 KT hF hHeld ⊢
    have cp130:=zp13.c0
    have cp131:=zp13.c1
    have gp130:=zp13.fz 0
    have gp131:=zp13.fz 1
    refine rdy 12 fun K hK => ?_
    go_simp
    refine hK.out _ _ (sS.out _ (KT.set2 hgp13 _ _)) (fun hHeld => ?_)
    clear hK K
    have ep13:=set2_at (x:=(.bool t3)) (y:=(.slice ar3 kr3 cr3)) cp130 cp131
    have ep12:=And.intro (set2_far (x:=(.bool t3)) (y:=(.slice ar3 kr3 cr3)) ep12.1 dp13p12) (set2_far (x:=(.bool t3)) (y:=(.slice ar3 kr3 cr3)) ep12.2 dp13p12)
    have n1:=New.box2 n1 zp13 (.bool t3) (.slice ar3 kr3 cr3)
    have n3:=New.box2 n3 zp13 (.bool t3) (.slice ar3 kr3 cr3)
    have n4:=New.box2 n4 zp13 (.bool t3) (.slice ar3 kr3 cr3)
    have KT:=KT.set2 hgp13 (.bool t3) (.slice ar3 kr3 cr3)
    have hF:=Flag.set2 hF hkp13 (.bool t3) (.slice ar3 kr3 cr3)
    clear cp130 cp131 gp130 gp131
    generalize ((Ws0.setCell ⟨p13,0,none⟩ (.bool t3)).setCell ⟨p13,1,none⟩ (.slice ar3 kr3 cr3)) = Ws1 at ep12 ep13  n1 n3 n4 KT hF hHeld ⊢
    have bp12:=Box.mk hF hkp12 ep12.1 ep12.2 n3.sl
    have bp13:=Box.mk hF hkp13 ep13.1 ep13.2 n4.sl
    refine dn ?_
    go_wp2_with fail
    go_meet
    case rel => exact ⟨p12,p13,s3,t3,aq3,ar3,kq3,cq3,kr3,cr3,rfl,rfl,KT,x1,q3,r3,hF,bp12,bp13,n4,HX3.out.1,HX3.out.2.1,hgp12,hgp13,fun h => ⟨fun hx => HX1.out.2.2.1 hx h,by rw [HX3.out.2.2.1,HX1.out.2.2.2.1 h],by rw [HX3.out.2.2.2,HX1.out.2.2.2.1 h]⟩,fun h => (HX1.out.2.1 h).1⟩
   refine AllReadyH.cons rfl (fun K hK => ?_) AllReadyH.nil
   go_simp
   refine hK.out _ _ (sS.out _ (KT.then ((Kept.refl Wa9).alloc _))) (fun hHeld => ?_)
   clear hK K
   have zp13:ZBox (Wa9.alloc (.cells #[.bool false,.slice none 0 0] 27)) Wa9.heap.size:=ZBox.alloc _
   have hkp13:Wa9.heap.size ≠ kb:=by have:=hF.lt; omega
   have hgp13:W.heap.size<=Wa9.heap.size:=KT.size
   have dp13p12:¬ (Wa9.heap.size = p12):=by have:=zp12.lt; omega
   have dp12p13:¬ (p12 = Wa9.heap.size):=by have:=zp12.lt; omega
   have zp12:=zp12.kept ((Kept.refl Wa9).alloc (.cells #[.bool false,.slice none 0 0] 27))
   have KT:=KT.then ((Kept.refl Wa9).alloc (.cells #[.bool false,.slice none 0 0] 27))
   have hF:=Flag.kept hF ((Kept.refl Wa9).alloc (.cells #[.bool false,.slice none 0 0] 27))
   obtain ⟨p13,hpp13⟩:∃ p,p = Wa9.heap.size:=⟨_,rfl⟩
   rw [<- hpp13] at zp13 hkp13 hgp13 dp13p12 dp12p13 ⊢
   generalize Wa9.alloc (.cells #[.bool false,.slice none 0 0] 27) = Wa10 at zp13 zp12  KT hF hHeld ⊢
   clear hpp13
   refine rdy 3 fun K hK => ?_
   go_simp
   refine (mul_q kb x t n (.slice ar kr cr) (.slice aob kb' cb) r b _ hF (B11.sl KT) (B6.sl KT) (R.of_right HX.out.2.1) HR.out.2.1).mono ?_
   rintro e w2 ⟨hk2,x1,s1,ao1,k1,c1,l1,rfl,hF1,n1,hr1,hx1,hy1,hv1⟩
   have HX1:=hid (And.intro hr1 (And.intro hx1 (And.intro hy1 hv1)))
   clear hr1 hx1 hy1 hv1
   refine hK.out _ _ (sS.out _ (KT.trans hk2)) (fun hHeld => ?_)
   clear hK K
   have zp12:=zp12.keptK hkp12 hk2
   have zp13:=zp13.keptK hkp13 hk2
   have KT:=(KT.trans hk2)
   have hF:=hF1
   refine rdy 5 fun K hK => ?_
   go_simp
   refine (quoRem_r s1 false (.slice ao1 k1 c1) (.slice aod kd cd) l1 d _ n1.sl (B7.sl KT) (R.of_right HX1.out.1) HR.out.2.2.1 HR.out.2.2.2).mono ?_
   rintro e w3 ⟨hk3,s3,aq3,kq3,cq3,q3,t3,ar3,kr3,cr3,r3,rfl,n3,n4,hrq3,hrr3,hq3,hr3⟩
   have n3:=n3.mono KT.size
   have n4:=n4.mono KT.size
   have HX3:=hid (And.intro hrq3 (And.intro hrr3 (And.intro hq3 hr3)))
   clear hrq3 hrr3 hq3 hr3
   refine hK.out _ _ (sS.out _ (KT.then hk3)) (fun hHeld => ?_)
   clear hK K
   have zp12:=zp12.kept hk3
   have zp13:=zp13.kept hk3
   have n1:=New.kept n1 hk3
   have KT:=(KT.then hk3)
   have hF:=Flag.kept hF hk3
   refine wk 6 hHeld ?_
   refine wk 7 hHeld ?_
   refine wk 8 hHeld ?_
   have cp120:=zp12.c0
   have cp121:=zp12.c1
   have gp120:=zp12.fz 0
   have gp121:=zp12.fz 1
   refine rdy 11 fun K hK => ?_
   go_simp
   refine hK.out _ _ (sS.out _ (KT.set2 hgp12 _ _)) (fun hHeld => ?_)
   clear hK K
   have ep12:=set2_at (x:=(.bool s3)) (y:=(.slice aq3 kq3 cq3)) cp120 cp121
   have n1:=New.box2 n1 zp12 (.bool s3) (.slice aq3 kq3 cq3)
   have n3:=New.box2 n3 zp12 (.bool s3) (.slice aq3 kq3 cq3)
   have n4:=New.box2 n4 zp12 (.bool s3) (.slice aq3 kq3 cq3)
   have KT:=KT.set2 hgp12 (.bool s3) (.slice aq3 kq3 cq3)
   have hF:=Flag.set2 hF hkp12 (.bool s3) (.slice aq3 kq3 cq3)
   have zp13:=zp13.far dp13p12 (.bool s3) (.slice aq3 kq3 cq3)
   clear cp120 cp121 gp120 gp121
   generalize ((w3.setCell ⟨p12,0,none⟩ (.bool s3)).setCell ⟨p12,1,none⟩ (.slice aq3 kq3 cq3)) = Ws0 at ep12 zp13 n1 n3 n4 KT hF hHeld ⊢
   have cp130:=zp13.c0
   have cp131:=zp13.c1
   have gp130:=zp13.fz 0
   have gp131:=zp13.fz 1
   refine rdy 12 fun K hK => ?_
   go_simp
   refine hK.out _ _ (sS.out _ (KT.set2 hgp13 _ _)) (fun hHeld => ?_)
   clear hK K
   have ep13:=set2_at (x:=(.bool t3)) (y:=(.slice ar3 kr3 cr3)) cp130 cp131
   have ep12:=And.intro (set2_far (x:=(.bool t3)) (y:=(.slice ar3 kr3 cr3)) ep12.1 dp13p12) (set2_far (x:=(.bool t3)) (y:=(.slice ar3 kr3 cr3)) ep12.2 dp13p12)
   have n1:=New.box2 n1 zp13 (.bool t3) (.slice ar3 kr3 cr3)
   have n3:=New.box2 n3 zp13 (.bool t3) (.slice ar3 kr3 cr3)
   have n4:=New.box2 n4 zp13 (.bool t3) (.slice ar3 kr3 cr3)
   have KT:=KT.set2 hgp13 (.bool t3) (.slice ar3 kr3 cr3)
   have hF:=Flag.set2 hF hkp13 (.bool t3) (.slice ar3 kr3 cr3)
   clear cp130 cp131 gp130 gp131
   generalize ((Ws0.setCell ⟨p13,0,none⟩ (.bool t3)).setCell ⟨p13,1,none⟩ (.slice ar3 kr3 cr3)) = Ws1 at ep12 ep13  n1 n3 n4 KT hF hHeld ⊢
   have bp12:=Box.mk hF hkp12 ep12.1 ep12.2 n3.sl
   have bp13:=Box.mk hF hkp13 ep13.1 ep13.2 n4.sl
   refine dn ?_
   go_wp2_with fail
   go_meet
   case rel => exact ⟨p12,p13,s3,t3,aq3,ar3,kq3,cq3,kr3,cr3,rfl,rfl,KT,x1,q3,r3,hF,bp12,bp13,n4,HX3.out.1,HX3.out.2.1,hgp12,hgp13,fun h => ⟨fun hx => HX1.out.2.2.1 hx h,by rw [HX3.out.2.2.1,HX1.out.2.2.2.1 h],by rw [HX3.out.2.2.2,HX1.out.2.2.2.1 h]⟩,fun h => (HX1.out.2.1 h).1⟩
  refine AllReadyH.cons rfl (fun K hK => ?_) AllReadyH.nil
  go_simp
  refine hK.out _ _ (sS.out _ (KT.then ((Kept.refl Wd).alloc _))) (fun hHeld => ?_)
  clear hK K
  have zp13:ZBox (Wd.alloc (.cells #[.bool false,.slice none 0 0] 27)) Wd.heap.size:=ZBox.alloc _
  have hkp13:Wd.heap.size ≠ kb:=by have:=hF.lt; omega
  have hgp13:W.heap.size<=Wd.heap.size:=KT.size
  have KT:=KT.then ((Kept.refl Wd).alloc (.cells #[.bool false,.slice none 0 0] 27))
  have hF:=Flag.kept hF ((Kept.refl Wd).alloc (.cells #[.bool false,.slice none 0 0] 27))
  obtain ⟨p13,hpp13⟩:∃ p,p = Wd.heap.size:=⟨_,rfl⟩
  rw [<- hpp13] at zp13 hkp13 hgp13  ⊢
  generalize Wd.alloc (.cells #[.bool false,.slice none 0 0] 27) = Wa10 at zp13   KT hF hHeld ⊢
  clear hpp13
  refine wpAnyH_ready (rs:=[3,9]) (by kernel_rfl) (by simp) ?_
  refine AllReadyH.cons rfl (fun K hK => ?_) ?_
  ·
   go_simp
   refine (mul_q kb x t n (.slice ar kr cr) (.slice aob kb' cb) r b _ hF (B11.sl KT) (B6.sl KT) (R.of_right HX.out.2.1) HR.out.2.1).mono ?_
   rintro e w2 ⟨hk2,x1,s1,ao1,k1,c1,l1,rfl,hF1,n1,hr1,hx1,hy1,hv1⟩
   have HX1:=hid (And.intro hr1 (And.intro hx1 (And.intro hy1 hv1)))
   clear hr1 hx1 hy1 hv1
   refine hK.out _ _ (sS.out _ (KT.trans hk2)) (fun hHeld => ?_)
   clear hK K
   have zp13:=zp13.keptK hkp13 hk2
   have KT:=(KT.trans hk2)
   have hF:=hF1
   refine wpAnyH_ready (rs:=[5,9]) (by kernel_rfl) (by simp) ?_
   refine AllReadyH.cons rfl (fun K hK => ?_) ?_
   ·
    go_simp
    refine (quoRem_r s1 false (.slice ao1 k1 c1) (.slice aod kd cd) l1 d _ n1.sl (B7.sl KT) (R.of_right HX1.out.1) HR.out.2.2.1 HR.out.2.2.2).mono ?_
    rintro e w3 ⟨hk3,s3,aq3,kq3,cq3,q3,t3,ar3,kr3,cr3,r3,rfl,n3,n4,hrq3,hrr3,hq3,hr3⟩
    have n3:=n3.mono KT.size
    have n4:=n4.mono KT.size
    have HX3:=hid (And.intro hrq3 (And.intro hrr3 (And.intro hq3 hr3)))
    clear hrq3 hrr3 hq3 hr3
    refine hK.out _ _ (sS.out _ (KT.then hk3)) (fun hHeld => ?_)
    clear hK K
    have zp13:=zp13.kept hk3
    have n1:=New.kept n1 hk3
    have KT:=(KT.then hk3)
    have hF:=Flag.kept hF hk3
    refine wk 6 hHeld ?_
    refine wk 7 hHeld ?_
    refine wk 8 hHeld ?_
    refine rdy 9 fun K hK => ?_
    go_simp
    refine hK.out _ _ (sS.out _ (KT.then ((Kept.refl w3).alloc _))) (fun hHeld => ?_)
    clear hK K
    have zp12:ZBox (w3.alloc (.cells #[.bool false,.slice none 0 0] 27)) w3.heap.size:=ZBox.alloc _
    have hkp12:w3.heap.size ≠ kb:=by have:=hF.lt; omega
    have hgp12:W.heap.size<=w3.heap.size:=KT.size
    have dp12p13:¬ (w3.heap.size = p13):=by have:=zp13.lt; omega
    have dp13p12:¬ (p13 = w3.heap.size):=by have:=zp13.lt; omega
    have zp13:=zp13.kept ((Kept.refl w3).alloc (.cells #[.bool false,.slice none 0 0] 27))
    have n1:=New.kept n1 ((Kept.refl w3).alloc (.cells #[.bool false,.slice none 0 0] 27))
    have n3:=New.kept n3 ((Kept.refl w3).alloc (.cells #[.bool false,.slice none 0 0] 27))
    have n4:=New.kept n4 ((Kept.refl w3).alloc (.cells #[.bool false,.slice none 0 0] 27))
    have KT:=KT.then ((Kept.refl w3).alloc (.cells #[.bool false,.slice none 0 0] 27))
    have hF:=Flag.kept hF ((Kept.refl w3).alloc (.cells #[.bool false,.slice none 0 0] 27))
    obtain ⟨p12,hpp12⟩:∃ p,p = w3.heap.size:=⟨_,rfl⟩
    rw [<- hpp12] at zp12 hkp12 hgp12 dp12p13 dp13p12 ⊢
    generalize w3.alloc (.cells #[.bool false,.slice none 0 0] 27) = Wa9 at zp12 zp13 n1 n3 n4 KT hF hHeld ⊢
    clear hpp12
    have cp120:=zp12.c0
    have cp121:=zp12.c1
    have gp120:=zp12.fz 0
    have gp121:=zp12.fz 1
    refine rdy 11 fun K hK => ?_
    go_simp
    refine hK.out _ _ (sS.out _ (KT.set2 hgp12 _ _)) (fun hHeld => ?_)
    clear hK K
    have ep12:=set2_at (x:=(.bool s3)) (y:=(.slice aq3 kq3 cq3)) cp120 cp121
    have n1:=New.box2 n1 zp12 (.bool s3) (.slice aq3 kq3 cq3)
    have n3:=New.box2 n3 zp12 (.bool s3) (.slice aq3 kq3 cq3)
    have n4:=New.box2 n4 zp12 (.bool s3) (.slice aq3 kq3 cq3)
    have KT:=KT.set2 hgp12 (.bool s3) (.slice aq3 kq3 cq3)
    have hF:=Flag.set2 hF hkp12 (.bool s3) (.slice aq3 kq3 cq3)
    have zp13:=zp13.far dp13p12 (.bool s3) (.slice aq3 kq3 cq3)
    clear cp120 cp121 gp120 gp121
    generalize ((Wa9.setCell ⟨p12,0,none⟩ (.bool s3)).setCell ⟨p12,1,none⟩ (.slice aq3 kq3 cq3)) = Ws0 at ep12 zp13 n1 n3 n4 KT hF hHeld ⊢
    have cp130:=zp13.c0
    have cp131:=zp13.c1
    have gp130:=zp13.fz 0
    have gp131:=zp13.fz 1
    refine rdy 12 fun K hK => ?_
    go_simp
    refine hK.out _ _ (sS.out _ (KT.set2 hgp13 _ _)) (fun hHeld => ?_)
    clear hK K
    have ep13:=set2_at (x:=(.bool t3)) (y:=(.slice ar3 kr3 cr3)) cp130 cp131
    have ep12:=And.intro (set2_far (x:=(.bool t3)) (y:=(.slice ar3 kr3 cr3)) ep12.1 dp13p12) (set2_far (x:=(.bool t3)) (y:=(.slice ar3 kr3 cr3)) ep12.2 dp13p12)
    have n1:=New.box2 n1 zp13 (.bool t3) (.slice ar3 kr3 cr3)
    have n3:=New.box2 n3 zp13 (.bool t3) (.slice ar3 kr3 cr3)
    have n4:=New.box2 n4 zp13 (.bool t3) (.slice ar3 kr3 cr3)
    have KT:=KT.set2 hgp13 (.bool t3) (.slice ar3 kr3 cr3)
    have hF:=Flag.set2 hF hkp13 (.bool t3) (.slice ar3 kr3 cr3)
    clear cp130 cp131 gp130 gp131
    generalize ((Ws0.setCell ⟨p13,0,none⟩ (.bool t3)).setCell ⟨p13,1,none⟩ (.slice ar3 kr3 cr3)) = Ws1 at ep12 ep13  n1 n3 n4 KT hF hHeld ⊢
    have bp12:=Box.mk hF hkp12 ep12.1 ep12.2 n3.sl
    have bp13:=Box.mk hF hkp13 ep13.1 ep13.2 n4.sl
    refine dn ?_
    go_wp2_with fail
    go_meet
    case rel => exact ⟨p12,p13,s3,t3,aq3,ar3,kq3,cq3,kr3,cr3,rfl,rfl,KT,x1,q3,r3,hF,bp12,bp13,n4,HX3.out.1,HX3.out.2.1,hgp12,hgp13,fun h => ⟨fun hx => HX1.out.2.2.1 hx h,by rw [HX3.out.2.2.1,HX1.out.2.2.2.1 h],by rw [HX3.out.2.2.2,HX1.out.2.2.2.1 h]⟩,fun h => (HX1.out.2.1 h).1⟩
   refine AllReadyH.cons rfl (fun K hK => ?_) AllReadyH.nil
   go_simp
   refine hK.out _ _ (sS.out _ (KT.then ((Kept.refl w2).alloc _))) (fun hHeld => ?_)
   clear hK K
   have zp12:ZBox (w2.alloc (.cells #[.bool false,.slice none 0 0] 27)) w2.heap.size:=ZBox.alloc _
   have hkp12:w2.heap.size ≠ kb:=by have:=hF.lt; omega
   have hgp12:W.heap.size<=w2.heap.size:=KT.size
   have dp12p13:¬ (w2.heap.size = p13):=by have:=zp13.lt; omega
   have dp13p12:¬ (p13 = w2.heap.size):=by have:=zp13.lt; omega
   have zp13:=zp13.kept ((Kept.refl w2).alloc (.cells #[.bool false,.slice none 0 0] 27))
   have n1:=New.kept n1 ((Kept.refl w2).alloc (.cells #[.bool false,.slice none 0 0] 27))
   have KT:=KT.then ((Kept.refl w2).alloc (.cells #[.bool false,.slice none 0 0] 27))
   have hF:=Flag.kept hF ((Kept.refl w2).alloc (.cells #[.bool false,.slice none 0 0] 27))
   obtain ⟨p12,hpp12⟩:∃ p,p = w2.heap.size:=⟨_,rfl⟩
   rw [<- hpp12] at zp12 hkp12 hgp12 dp12p13 dp13p12 ⊢
   generalize w2.alloc (.cells #[.bool false,.slice none 0 0] 27) = Wa9 at zp12 zp13 n1 KT hF hHeld ⊢
   clear hpp12
   refine rdy 5 fun K hK => ?_
   go_simp
   refine (quoRem_r s1 false (.slice ao1 k1 c1) (.slice aod kd cd) l1 d _ n1.sl (B7.sl KT) (R.of_right HX1.out.1) HR.out.2.2.1 HR.out.2.2.2).mono ?_
   rintro e w3 ⟨hk3,s3,aq3,kq3,cq3,q3,t3,ar3,kr3,cr3,r3,rfl,n3,n4,hrq3,hrr3,hq3,hr3⟩
   have n3:=n3.mono KT.size
   have n4:=n4.mono KT.size
   have HX3:=hid (And.intro hrq3 (And.intro hrr3 (And.intro hq3 hr3)))
   clear hrq3 hrr3 hq3 hr3
   refine hK.out _ _ (sS.out _ (KT.then hk3)) (fun hHeld => ?_)
   clear hK K
   have zp13:=zp13.kept hk3
   have zp12:=zp12.kept hk3
   have n1:=New.kept n1 hk3
   have KT:=(KT.then hk3)
   have hF:=Flag.kept hF hk3
   refine wk 6 hHeld ?_
   refine wk 7 hHeld ?_
   refine wk 8 hHeld ?_
   have cp120:=zp12.c0
   have cp121:=zp12.c1
   have gp120:=zp12.fz 0
   have gp121:=zp12.fz 1
   refine rdy 11 fun K hK => ?_
   go_simp
   refine hK.out _ _ (sS.out _ (KT.set2 hgp12 _ _)) (fun hHeld => ?_)
   clear hK K
   have ep12:=set2_at (x:=(.bool s3)) (y:=(.slice aq3 kq3 cq3)) cp120 cp121
   have n1:=New.box2 n1 zp12 (.bool s3) (.slice aq3 kq3 cq3)
   have n3:=New.box2 n3 zp12 (.bool s3) (.slice aq3 kq3 cq3)
   have n4:=New.box2 n4 zp12 (.bool s3) (.slice aq3 kq3 cq3)
   have KT:=KT.set2 hgp12 (.bool s3) (.slice aq3 kq3 cq3)
   have hF:=Flag.set2 hF hkp12 (.bool s3) (.slice aq3 kq3 cq3)
   have zp13:=zp13.far dp13p12 (.bool s3) (.slice aq3 kq3 cq3)
   clear cp120 cp121 gp120 gp121
   generalize ((w3.setCell ⟨p12,0,none⟩ (.bool s3)).setCell ⟨p12,1,none⟩ (.slice aq3 kq3 cq3)) = Ws0 at ep12 zp13 n1 n3 n4 KT hF hHeld ⊢
   have cp130:=zp13.c0
   have cp131:=zp13.c1
   have gp130:=zp13.fz 0
   have gp131:=zp13.fz 1
   refine rdy 12 fun K hK => ?_
   go_simp
   refine hK.out _ _ (sS.out _ (KT.set2 hgp13 _ _)) (fun hHeld => ?_)
   clear hK K
   have ep13:=set2_at (x:=(.bool t3)) (y:=(.slice ar3 kr3 cr3)) cp130 cp131
   have ep12:=And.intro (set2_far (x:=(.bool t3)) (y:=(.slice ar3 kr3 cr3)) ep12.1 dp13p12) (set2_far (x:=(.bool t3)) (y:=(.slice ar3 kr3 cr3)) ep12.2 dp13p12)
   have n1:=New.box2 n1 zp13 (.bool t3) (.slice ar3 kr3 cr3)
   have n3:=New.box2 n3 zp13 (.bool t3) (.slice ar3 kr3 cr3)
   have n4:=New.box2 n4 zp13 (.bool t3) (.slice ar3 kr3 cr3)
   have KT:=KT.set2 hgp13 (.bool t3) (.slice ar3 kr3 cr3)
   have hF:=Flag.set2 hF hkp13 (.bool t3) (.slice ar3 kr3 cr3)
   clear cp130 cp131 gp130 gp131
   generalize ((Ws0.setCell ⟨p13,0,none⟩ (.bool t3)).setCell ⟨p13,1,none⟩ (.slice ar3 kr3 cr3)) = Ws1 at ep12 ep13  n1 n3 n4 KT hF hHeld ⊢
   have bp12:=Box.mk hF hkp12 ep12.1 ep12.2 n3.sl
   have bp13:=Box.mk hF hkp13 ep13.1 ep13.2 n4.sl
   refine dn ?_
   go_wp2_with fail
   go_meet
   case rel => exact ⟨p12,p13,s3,t3,aq3,ar3,kq3,cq3,kr3,cr3,rfl,rfl,KT,x1,q3,r3,hF,bp12,bp13,n4,HX3.out.1,HX3.out.2.1,hgp12,hgp13,fun h => ⟨fun hx => HX1.out.2.2.1 hx h,by rw [HX3.out.2.2.1,HX1.out.2.2.2.1 h],by rw [HX3.out.2.2.2,HX1.out.2.2.2.1 h]⟩,fun h => (HX1.out.2.1 h).1⟩
  refine AllReadyH.cons rfl (fun K hK => ?_) AllReadyH.nil
  go_simp
  refine hK.out _ _ (sS.out _ (KT.then ((Kept.refl Wa10).alloc _))) (fun hHeld => ?_)
  clear hK K
  have zp12:ZBox (Wa10.alloc (.cells #[.bool false,.slice none 0 0] 27)) Wa10.heap.size:=ZBox.alloc _
  have hkp12:Wa10.heap.size ≠ kb:=by have:=hF.lt; omega
  have hgp12:W.heap.size<=Wa10.heap.size:=KT.size
  have dp12p13:¬ (Wa10.heap.size = p13):=by have:=zp13.lt; omega
  have dp13p12:¬ (p13 = Wa10.heap.size):=by have:=zp13.lt; omega
  have zp13:=zp13.kept ((Kept.refl Wa10).alloc (.cells #[.bool false,.slice none 0 0] 27))
  have KT:=KT.then ((Kept.refl Wa10).alloc (.cells #[.bool false,.slice none 0 0] 27))
  have hF:=Flag.kept hF ((Kept.refl Wa10).alloc (.cells #[.bool false,.slice none 0 0] 27))
  obtain ⟨p12,hpp12⟩:∃ p,p = Wa10.heap.size:=⟨_,rfl⟩
  rw [<- hpp12] at zp12 hkp12 hgp12 dp12p13 dp13p12 ⊢
  generalize Wa10.alloc (.cells #[.bool false,.slice none 0 0] 27) = Wa9 at zp12 zp13  KT hF hHeld ⊢
  clear hpp12
  refine rdy 3 fun K hK => ?_
  go_simp
  refine (mul_q kb x t n (.slice ar kr cr) (.slice aob kb' cb) r b _ hF (B11.sl KT) (B6.sl KT) (R.of_right HX.out.2.1) HR.out.2.1).mono ?_
  rintro e w2 ⟨hk2,x1,s1,ao1,k1,c1,l1,rfl,hF1,n1,hr1,hx1,hy1,hv1⟩
  have HX1:=hid (And.intro hr1 (And.intro hx1 (And.intro hy1 hv1)))
  clear hr1 hx1 hy1 hv1
  refine hK.out _ _ (sS.out _ (KT.trans hk2)) (fun hHeld => ?_)
  clear hK K
  have zp13:=zp13.keptK hkp13 hk2
  have zp12:=zp12.keptK hkp12 hk2
  have KT:=(KT.trans hk2)
  have hF:=hF1
  refine rdy 5 fun K hK => ?_
  go_simp
  refine (quoRem_r s1 false (.slice ao1 k1 c1) (.slice aod kd cd) l1 d _ n1.sl (B7.sl KT) (R.of_right HX1.out.1) HR.out.2.2.1 HR.out.2.2.2).mono ?_
  rintro e w3 ⟨hk3,s3,aq3,kq3,cq3,q3,t3,ar3,kr3,cr3,r3,rfl,n3,n4,hrq3,hrr3,hq3,hr3⟩
  have n3:=n3.mono KT.size
  have n4:=n4.mono KT.size
  have HX3:=hid (And.intro hrq3 (And.intro hrr3 (And.intro hq3 hr3)))
  clear hrq3 hrr3 hq3 hr3
  refine hK.out _ _ (sS.out _ (KT.then hk3)) (fun hHeld => ?_)
  clear hK K
  have zp13:=zp13.kept hk3
  have zp12:=zp12.kept hk3
  have n1:=New.kept n1 hk3
  have KT:=(KT.then hk3)
  have hF:=Flag.kept hF hk3
  refine wk 6 hHeld ?_
  refine wk 7 hHeld ?_
  refine wk 8 hHeld ?_
  have cp120:=zp12.c0
  have cp121:=zp12.c1
  have gp120:=zp12.fz 0
  have gp121:=zp12.fz 1
  refine rdy 11 fun K hK => ?_
  go_simp
  refine hK.out _ _ (sS.out _ (KT.set2 hgp12 _ _)) (fun hHeld => ?_)
  clear hK K
  have ep12:=set2_at (x:=(.bool s3)) (y:=(.slice aq3 kq3 cq3)) cp120 cp121
  have n1:=New.box2 n1 zp12 (.bool s3) (.slice aq3 kq3 cq3)
  have n3:=New.box2 n3 zp12 (.bool s3) (.slice aq3 kq3 cq3)
  have n4:=New.box2 n4 zp12 (.bool s3) (.slice aq3 kq3 cq3)
  have KT:=KT.set2 hgp12 (.bool s3) (.slice aq3 kq3 cq3)
  have hF:=Flag.set2 hF hkp12 (.bool s3) (.slice aq3 kq3 cq3)
  have zp13:=zp13.far dp13p12 (.bool s3) (.slice aq3 kq3 cq3)
  clear cp120 cp121 gp120 gp121
  generalize ((w3.setCell ⟨p12,0,none⟩ (.bool s3)).setCell ⟨p12,1,none⟩ (.slice aq3 kq3 cq3)) = Ws0 at ep12 zp13 n1 n3 n4 KT hF hHeld ⊢
  have cp130:=zp13.c0
  have cp131:=zp13.c1
  have gp130:=zp13.fz 0
  have gp131:=zp13.fz 1
  refine rdy 12 fun K hK => ?_
  go_simp
  refine hK.out _ _ (sS.out _ (KT.set2 hgp13 _ _)) (fun hHeld => ?_)
  clear hK K
  have ep13:=set2_at (x:=(.bool t3)) (y:=(.slice ar3 kr3 cr3)) cp130 cp131
  have ep12:=And.intro (set2_far (x:=(.bool t3)) (y:=(.slice ar3 kr3 cr3)) ep12.1 dp13p12) (set2_far (x:=(.bool t3)) (y:=(.slice ar3 kr3 cr3)) ep12.2 dp13p12)
  have n1:=New.box2 n1 zp13 (.bool t3) (.slice ar3 kr3 cr3)
  have n3:=New.box2 n3 zp13 (.bool t3) (.slice ar3 kr3 cr3)
  have n4:=New.box2 n4 zp13 (.bool t3) (.slice ar3 kr3 cr3)
  have KT:=KT.set2 hgp13 (.bool t3) (.slice ar3 kr3 cr3)
  have hF:=Flag.set2 hF hkp13 (.bool t3) (.slice ar3 kr3 cr3)
  clear cp130 cp131 gp130 gp131
  generalize ((Ws0.setCell ⟨p13,0,none⟩ (.bool t3)).setCell ⟨p13,1,none⟩ (.slice ar3 kr3 cr3)) = Ws1 at ep12 ep13  n1 n3 n4 KT hF hHeld ⊢
  have bp12:=Box.mk hF hkp12 ep12.1 ep12.2 n3.sl
  have bp13:=Box.mk hF hkp13 ep13.1 ep13.2 n4.sl
  refine dn ?_
  go_wp2_with fail
  go_meet
  case rel => exact ⟨p12,p13,s3,t3,aq3,ar3,kq3,cq3,kr3,cr3,rfl,rfl,KT,x1,q3,r3,hF,bp12,bp13,n4,HX3.out.1,HX3.out.2.1,hgp12,hgp13,fun h => ⟨fun hx => HX1.out.2.2.1 hx h,by rw [HX3.out.2.2.1,HX1.out.2.2.2.1 h],by rw [HX3.out.2.2.2,HX1.out.2.2.2.1 h]⟩,fun h => (HX1.out.2.1 h).1⟩
 case rest =>
  obtain ⟨p12,p13,s3,t3,aq3,ar3,kq3,cq3,kr3,cr3,rfl,rfl,HC⟩:=hcut
  obtain ⟨KT,x1,q3,r3,hFc,B12,B13,n13,hc⟩:=HC.out
  have HV:=hid hc
  clear hc HC
  have B6:=B6.mv KT
  have B10:=B10.mv KT
  obtain ⟨h1,h2,h3,h4,h5,h6,h7,h8,h9⟩:=HP.out
  have g12:=HV.out.2.2.1
  have g13:=HV.out.2.2.2.1
  have Z8:=zp8.keptK (by omega) KT
  have Z9:=zp9.keptK (by omega) KT
  have nb:¬ p8 = kb:=by omega
  have nb':¬ p9 = kb:=by omega
  have n8:¬ p8 = p10:=by omega
  have n9:¬ p8 = p6:=by omega
  have n10:¬ p8 = p12:=by omega
  have n11:¬ p8 = p13:=by omega
  have m8:¬ p9 = p10:=by omega
  have m9:¬ p9 = p6:=by omega
  have m10:¬ p9 = p12:=by omega
  have m11:¬ p9 = p13:=by omega
  have m12:¬ p8 = p9:=by omega
  have m13:¬ p9 = p8:=by omega
  clear h1 h2 h3 h4 h5 h6 h7 h8 h9 g12 g13 zp8 zp9 B7 B11 hF
  have KK:KeptK kb wc wc:=KeptK.refl _ _
  have a0:=B10.c0 KK
  have a1:=B10.c1 KK
  have a2:=B6.c0 KK
  have a3:=B6.c1 KK
  have a4:=B12.c0 KK
  have a5:=B12.c1 KK
  have a6:=B13.c0 KK
  have a7:=B13.c1 KK
  clear KK
  go_wp2_with fail
  go_region_held3 (fun w' => w'.cell? ⟨p10,0,none⟩ = some (.bool s)/\w'.cell? ⟨p10,1,none⟩ = some (.slice aq kq cq)/\w'.cell? ⟨p6,0,none⟩ = some (.bool n)/\w'.cell? ⟨p6,1,none⟩ = some (.slice aob kb' cb)/\w'.cell? ⟨p12,0,none⟩ = some (.bool s3)/\w'.cell? ⟨p12,1,none⟩ = some (.slice aq3 kq3 cq3)/\w'.cell? ⟨p13,0,none⟩ = some (.bool t3)/\w'.cell? ⟨p13,1,none⟩ = some (.slice ar3 kr3 cr3)) (go_keep) (first
   | (go_at_call 98; refine (mul_q kb x1 s n (.slice aq kq cq) (.slice aob kb' cb) q b _ (hFc.kept (Kept.refl _).drew) (B10.sl (KeptK.of (Kept.refl _).drew)) (B6.sl (KeptK.of (Kept.refl _).drew)) (R.of_right HX.out.1) HR.out.2.1).mono ?_; rintro e w4 ⟨hk4,x4,s4,ao4,k4,c4,l4,rfl,hF4,n4,hr4,hx4,hy4,hv4⟩; have K4:=(KeptK.of (kb:=kb) (Kept.refl wc).drew).trans hk4; have b0:=B10.c0 K4; have b1:=B10.c1 K4; have b2:=B6.c0 K4; have b3:=B6.c1 K4; have b4:=B12.c0 K4; have b5:=B12.c1 K4; have b6:=B13.c0 K4; have b7:=B13.c1 K4; have HX4:=hid (And.intro hr4 (And.intro hx4 (And.intro hy4 hv4))); clear hr4 hx4 hy4 hv4)
   | (go_at_call 128; refine (add_q kb x4 s4 s3 (.slice ao4 k4 c4) (.slice aq3 kq3 cq3) l4 q3 _ hF4 n4.sl (B12.sl K4) (R.of_right HX4.out.1) (R.of_right HV.out.1)).mono ?_; rintro e w5 ⟨hk5,x5,s5,ao5,k5,c5,l5,rfl,hF5,n5,hr5,hx5,hy5,hv5⟩; have K5:=K4.trans hk5; have d0:=B10.c0 K5; have d1:=B10.c1 K5; have d2:=B6.c0 K5; have d3:=B6.c1 K5; have d4:=B12.c0 K5; have d5:=B12.c1 K5; have d6:=B13.c0 K5; have d7:=B13.c1 K5; have z8:=Z8.keptK nb K5; have z9:=Z9.keptK nb' K5; have e0:=z8.c0; have e1:=z8.c1; have e2:=z8.fz 0; have e3:=z8.fz 1; have e4:=z9.c0; have e5:=z9.c1; have e6:=z9.fz 0; have e7:=z9.fz 1; have HX5:=hid (And.intro hr5 (And.intro hx5 (And.intro hy5 hv5))); clear hr5 hx5 hy5 hv5))
  clear a0 a1 a2 a3 a4 a5 a6 a7 b0 b1 b2 b3 b4 b5 b6 b7 d0 d1 d2 d3 d4 d5 d6 d7
  go_wp2
  obtain ⟨h1,h2,h3,h4,h5,h6,h7,h8,h9⟩:=HP.out
  have hkA:KeptK kb w w5:=((KeptK.of h1).trans KT).trans K5
  obtain ⟨v1,v2,v3,v4,v5,v6⟩:=HV.out
  have s0:=K4.size
  have s1:=KT.size
  refine bodyPost_ret (v:=.tuple #[.agg #[.bool s5,.slice ao5 k5 c5],.agg #[.bool t3,.slice ar3 kr3 cr3]]) (by simp [results,Tryz.results127,go_sem,e0,e1,e4,e5]) rfl ⟨?_,x5,s5,ao5,k5,c5,l5,t3,ar3,kr3,cr3,r3,rfl,?_,?_,?_,HX5.out.1,v2,?_⟩
  ·
   exact (hkA.set2 (by omega) _ _).set2 (by omega) _ _
  ·
   exact (hF5.set2 nb _ _).set2 nb' _ _
  ·
   exact (New.box2 (New.box2 n5 z8 _ _) (z9.far m13 _ _) _ _).mono (by omega)
  ·
   exact (New.box2 (New.box2 (New.keptK hFc n13 K5) z8 _ _) (z9.far m13 _ _) _ _).mono (by omega)
  ·
   intro hv
   rw [<- HX.out.2.2.2] at hv
   have e9:=v5 hv
   rw [<- HX.out.2.2.2,<- HX.out.2.2.1]
   exact ⟨e9.2.2,over_last HX4.out.2.1 HX4.out.2.2.1 HX5.out.2.1 HX5.out.2.2.1 v6 e9.1 e9.2.1⟩
end F
end Go.Proofs.YthfbfbfambbkaaaGreatDoor
