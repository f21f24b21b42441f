/- Lemmas. -/
import Derived.Test.YtembglnonhlnkaaGreatDoorGak
import Derived.Test.YtembglnonhlnkaaGreatDoorGaj
import Derived.Test.YtembglnonhlnkaaGreatDoorGai
import Derived.Test.YtembglnonhlnkaaGreatDoorGao
import Derived.Test.YtembglnonhlnkaaGreatDoorGaz
import Derived.Test.YtembglnonhlnkaaGreatDoorGap
import Derived.Test.YtembglnonhlnkaaGreatDoorGend
import Derived.Test.YtembglnonhlnkaaGreatDoorNdig
import Derived.Test.YtembglnonhlnkaaGreatDoorGaw
namespace Go.Proofs.YtembglnonhlnkaaGreatDoor
open Go.RowKit
namespace Q
structure P2 (w wr:World) (p2 p3:Nat) (sg:Bool) (ao:Option Addr) (k cap:Nat) (z:Int):Prop where
 kp:Kept w wr
 r2:Row2 87 wr p2 (.bool false) (.slice none 0 0)
 r3:Row2 87 wr p3 (.bool sg) (.slice ao k cap)
 na:D.NIs wr sg (.slice ao k cap) z
 p2w:w.heap.size<=p2
 p3w:w.heap.size<=p3
 ne:¬ p2 = p3
theorem P2.kept {w wr wr':World} {p2 p3:Nat} {sg:Bool} {ao:Option Addr} {k cap:Nat} {z:Int} (h:P2 w wr p2 p3 sg ao k cap z) (q:Kept wr wr'):P2 w wr' p2 p3 sg ao k cap z :=
 ⟨h.kp.trans q,h.r2.kept q,h.r3.kept q,h.na.kept q,h.p2w,h.p3w,h.ne⟩
theorem P2.put {w wr:World} {p2 p3:Nat} {sg:Bool} {ao:Option Addr} {k cap:Nat} {z:Int} (h:P2 w wr p2 p3 sg ao k cap z) {sg':Bool} {ao':Option Addr} {k' cap':Nat} {z':Int} (hn:D.NIs wr sg' (.slice ao' k' cap') z') :
  P2 w ((wr.setCell ⟨p3,0,none⟩ (.bool sg')).setCell ⟨p3,1,none⟩ (.slice ao' k' cap')) p2 p3 sg' ao' k' cap' z' :=
 ⟨Kept.put2 h.kp h.p3w _ _,h.r2.far h.ne _ _,h.r3.set2 _ _,hn.box2 h.r3.c0 h.r3.c1 _ _,h.p2w,h.p3w,h.ne⟩
def NE (w:World) (e:Ending) (z:Int) (kk:Nat):Prop:=∃ s ao k cap,e = .returned (.agg #[.bool s,.slice ao k cap])/\D.NIs w s (.slice ao k cap) z/\k<=kk
def pw (n:Nat):Int:=((10 ^ n:Nat):Int)
theorem pw_succ (n:Nat):pw (n + 1) = pw n * 10:=by unfold pw; rw [Nat.pow_succ,Int.natCast_mul]; rfl
theorem pw_pos (n:Nat):0 < pw n:=by unfold pw; have:=Nat.pow_pos (n:=n) (show 0 < 10 by decide); omega
set_option maxRecDepth 100000 in
set_option maxHeartbeats 8000000 in
theorem rpower_any (n:Nat) (hn:n<=100) (w:World) :
  Calls Tryz.prog 92 #[.int .i64 (n:Int)] w fun e w' => Kept w w'/\NE w' e (pw n) (n + 1):=by
 go_enter Tryz.func92,Tryz.ntmps92
 go_wp2_with fail
 refine (D.small_num 1 _ (by omega) (by omega)).mono ?_
 rintro e w1 ⟨hk1,ao1,k1,c1,rfl,n1,l1⟩
 go_wp2_with fail
 have hA:Kept w1 (w1.alloc (.cells #[.bool false,.slice ao1 k1 c1] 87)):=(Kept.refl w1).alloc _
 have hlt:w.heap.size < w1.heap.size:=by have:=hk1.size; simp at this; omega
 have hP:P2 w (w1.alloc (.cells #[.bool false,.slice ao1 k1 c1] 87)) w.heap.size w1.heap.size false ao1 k1 c1 1 :=
  ⟨(((Kept.refl w).alloc _).trans hk1).trans hA,((Row2.alloc 87 w (.bool false) (.slice none 0 0)).kept hk1).kept hA,Row2.alloc 87 w1 (.bool false) (.slice ao1 k1 c1),n1.kept hA,Nat.le_refl _,by omega,by omega⟩
 generalize w1.alloc (.cells #[.bool false,.slice ao1 k1 c1] 87) = W at hP hA ⊢
 obtain ⟨p3,hp3⟩:∃ p,p = w1.heap.size:=⟨_,rfl⟩
 rw [<- hp3] at hP ⊢
 obtain ⟨p2,hp2⟩:∃ p,p = w.heap.size:=⟨_,rfl⟩
 rw [<- hp2] at hP ⊢
 have HP:=hid' hP
 clear hp2 hp3 hP hA hlt hk1 n1
 go_loopw [4] (fun vi wr => ∃ (j:Nat) (sg:Bool) (ao:Option Addr) (k cap:Nat),j<=n/\vi = .int .i64 (j:Int)/\Hid (P2 w wr p2 p3 sg ao k cap (pw j)/\k<=j + 1)) (fun vi _ => n - (intOf vi).toNat)
 case atStart => exact ⟨0,_,_,_,_,Nat.zero_le _,rfl,HP.out,by omega⟩
 case round =>
  obtain ⟨j,sg,ao,k,cap,hj,rfl,HI⟩:=hrel
  obtain ⟨q0,q1,q2,q3⟩:=HI.out.1.r3.all
  by_cases hlt:j < n
  ·
   have hji:(j:Int) < (n:Int):=by omega
   go_wp2_with fail
   go_region_with (first
    | (go_at_call 68; refine (D.small_num 10 _ (by omega) (by omega)).mono ?_; rintro e wC ⟨hkC,aoC,kC,cC,rfl,nC,lC⟩; have HC:=hid' (And.intro nC lC); have KC:=(Kept.refl wr).drew.trans hkC; obtain ⟨g0,g1,g2,g3⟩:=(HI.out.1.kept KC).r3.all; clear nC lC hkC)
    | (go_at_call 71; refine (D.Times_any sg false ao aoC k kC cap cC _ _ _ (HI.out.1.na.kept KC) HC.out.1 (by have:=HI.out.2; omega) (by have:=HC.out.2; omega)).mono ?_; rintro e wE ⟨hkE,sE,aoE,kE,cE,rfl,nE,lE⟩; have HE:=hid' (And.intro nE lE); have KE:=KC.trans hkE; obtain ⟨j0,j1,j2,j3⟩:=(HI.out.1.kept KE).r3.all; clear nE lE hkE))
   all_goals
    have HWE:=hid' (HI.out.1.kept KE)
    clear KC KE
    go_wp2_with fail
    go_roundw
    case rel => exact ⟨j + 1,sE,aoE,kE,cE,by omega,by go_num,HWE.out.put (by rw [pw_succ]; exact HE.out.1),by have h1:=HE.out.2; have h2:=HI.out.2; have h3:=HC.out.2; omega⟩
    case measure => show n - ((j:Int) + 1).toNat < n - (j:Int).toNat; omega
  ·
   obtain rfl:j = n:=by omega
   have hji:¬ (j:Int) < (j:Int):=by omega
   obtain ⟨d0,d1,d2,d3⟩:=HI.out.1.r2.all
   go_wp2_with fail
   refine bodyPost_ret (v:=.agg #[.bool sg,.slice ao k cap]) (by simp [results,Tryz.results92,go_sem,d0,d1]) rfl ⟨Kept.put2 HI.out.1.kp HI.out.1.p2w _ _,sg,ao,k,cap,rfl,HI.out.1.na.box2 HI.out.1.r2.c0 HI.out.1.r2.c1 _ _,HI.out.2⟩
def FE (w:World) (e:Ending) (m x:Int):Prop:=∃ (v:Value) (N:Int) (D:Nat),e = .returned v/\F.FIs w v N (D:Int) 110 110/\Scl m x N D
theorem rpower_int (z:Int) (h0:0<=z) (h1:z<=100) (w:World):Calls Tryz.prog 92 #[.int .i64 z] w fun e w' => Kept w w'/\∃ s ao k cap,e = .returned (.agg #[.bool s,.slice ao k cap])/\D.NIs w' s (.slice ao k cap) (pw z.toNat)/\k<=101:=by
 obtain ⟨n,rfl⟩:=Int.eq_ofNat_of_zero_le h0
 refine (rpower_any n (by omega) w).mono ?_
 rintro e w' ⟨hk,s,ao,k,cap,rfl,hn,hl⟩
 exact ⟨hk,s,ao,k,cap,rfl,hn,by omega⟩
theorem scl_low {m x N D:Int} (hx:x < 0) (h:F.Low m (pw (-x).toNat) N D):Scl m x N D.toNat:=by
 refine ⟨by have:=h.pos; omega,?_,?_⟩
 ·
  show Nat.gcd _ _ = 1
  rw [show D.toNat = D.natAbs by have:=h.pos; omega]
  exact h.low
 ·
  rw [show x.toNat = 0 by omega,show ((D.toNat:Nat):Int) = D by have:=h.pos; omega]
  have:=h.eq
  unfold pw at this
  rw [this]
  simp
theorem scl_whole {m x:Int} (hx:0<=x):Scl m x (m * pw x.toNat) 1:=by
 refine ⟨by decide,by show Nat.gcd _ _ = 1; simp,?_⟩
 rw [show (-x).toNat = 0 by omega]
 unfold pw
 simp
set_option maxRecDepth 100000 in
set_option maxHeartbeats 8000000 in
theorem of_neg (m x:Int) (h1:-9223372036854775808<=m) (h2:m<=9223372036854775807) (hx:x < 0) (hx1:-50<=x) (w:World) :
  Calls Tryz.prog 53 #[.agg #[.int .i64 m,.int .i64 x]] w fun e w' => Kept w w'/\FE w' e m x:=by
 have HM:=hid' (And.intro h1 h2)
 clear h1 h2
 have hwr:IntKind.i64.wrap (-x) = -x:=wrap_i64' (by omega) (by omega)
 go_enter Tryz.func53,Tryz.ntmps53
 go_upto_region 1 with fail
 have r1:=(Row2.alloc 26 w (.int .i64 m) (.int .i64 x)).kept ((Kept.refl _).alloc (.cells #[.bool false,.slice none 0 0,.bool false,.slice none 0 0] 89))
 have r2:=F.FRow.alloc (w.alloc (.cells #[.int .i64 m,.int .i64 x] 26)) (.bool false) (.slice none 0 0) (.bool false) (.slice none 0 0)
 have hK:=((Kept.refl w).alloc (.cells #[.int .i64 m,.int .i64 x] 26)).alloc (.cells #[.bool false,.slice none 0 0,.bool false,.slice none 0 0] 89)
 simp only [World.size_alloc] at r2
 generalize (w.alloc (.cells #[.int .i64 m,.int .i64 x] 26)).alloc (.cells #[.bool false,.slice none 0 0,.bool false,.slice none 0 0] 89) = W at r1 r2 hK ⊢
 obtain ⟨p2,hp2⟩:∃ p,p = w.heap.size + 1:=⟨_,rfl⟩
 rw [<- hp2] at r2 ⊢
 obtain ⟨p1,hp1⟩:∃ p,p = w.heap.size:=⟨_,rfl⟩
 rw [<- hp1] at r1 ⊢
 have HP:Hid (w.heap.size<=p2):=by show _<=_; omega
 have n21:¬ p2 = p1:=by omega
 clear hp1 hp2
 have HR:=hid' (And.intro r1 (And.intro r2 hK))
 obtain ⟨q0,q1,q2,q3⟩:=r1.all
 clear r1 r2 hK
 go_wp2_with fail
 refine (D.wide_any m _ HM.out.1 HM.out.2).mono ?_
 rintro e w3 ⟨hk3,s3,a3,k3,c3,rfl,n3,l3⟩
 have HL:=hid' l3
 have R1:=HR.out.1.kept hk3
 have R2:=HR.out.2.1.kept hk3
 have RK:=HR.out.2.2.trans hk3
 have l1:=R1.lt
 have l2:=R2.lt
 clear q0 q1 q2 q3 l3 hk3
 go_upto_region 2 with fail
 have hA:Kept w3 (w3.alloc (.cells #[.bool s3,.slice a3 k3 c3] 87)):=(Kept.refl w3).alloc _
 have r3:=Row2.alloc 87 w3 (.bool s3) (.slice a3 k3 c3)
 have r1:=R1.kept hA
 have r2:=R2.kept hA
 have hK:=RK.trans hA
 have n3':=n3.kept hA
 clear R1 R2 RK n3 HR
 generalize w3.alloc (.cells #[.bool s3,.slice a3 k3 c3] 87) = V at r1 r2 r3 hK n3' ⊢
 obtain ⟨p3,hp3⟩:∃ p,p = w3.heap.size:=⟨_,rfl⟩
 rw [<- hp3] at r3 ⊢
 have n23:¬ p2 = p3:=by omega
 have n13:¬ p1 = p3:=by omega
 have HV:Hid (∀ U,Kept V U->Row2 26 U p1 (.int .i64 m) (.int .i64 x)/\Row2 87 U p3 (.bool s3) (.slice a3 k3 c3)/\F.FRow U p2 (.bool false) (.slice none 0 0) (.bool false) (.slice none 0 0)/\Kept w U/\D.NIs U s3 (.slice a3 k3 c3) m/\True):=fun U hU => ⟨r1.kept hU,r3.kept hU,r2.kept hU,hK.trans hU,n3'.kept hU,trivial⟩
 obtain ⟨q0,q1,q2,q3⟩:=r1.all
 obtain ⟨q4,q5,q6,q7⟩:=r3.all
 clear hp3 r1 r2 r3 hK n3' l1 l2 hA q2 q3 q6 q7
 go_upto_region 3 with fail
 go_region_held3 (fun w' => w'.cell? ⟨p1,0,none⟩ = some (.int .i64 m)/\w'.cell? ⟨p1,1,none⟩ = some (.int .i64 x)/\w'.cell? ⟨p3,0,none⟩ = some (.bool s3)/\w'.cell? ⟨p3,1,none⟩ = some (.slice a3 k3 c3)) (go_keep) (first
  | (go_at_call 92; refine (rpower_int (-x) (by omega) (by omega) _).mono ?_; rintro e w4 ⟨hk4,s4,a4,k4,c4,rfl,n4,l4⟩; have K4:=(Kept.refl V).drew.trans hk4; have H4:=hid' (And.intro n4 l4); clear n4 l4; obtain ⟨d0,d1,_,_⟩:=(HV.out _ K4).1.all; obtain ⟨d2,d3,_,_⟩:=(HV.out _ K4).2.1.all)
  | (go_at_call 91; refine (F.Lowest_any s3 s4 a3 a4 k3 c3 k4 c4 m (pw (-x).toNat) _ (HV.out _ K4).2.2.2.2.1 H4.out.1 (by have:=HL.out; omega) (by have:=H4.out.2; omega) (by have:=pw_pos (-x).toNat; omega)).mono ?_; rintro e w5 ⟨hk5,v5,N5,D5,rfl,hF5,hL5⟩; obtain ⟨s5,a5,k5,c5,t5,a6,k6,c6,rfl,n5,n6,l5,l6⟩:=hF5; have K5:=K4.trans hk5; have H5:=hid' (And.intro n5 (And.intro n6 (And.intro l5 (And.intro l6 hL5)))); clear n5 n6 l5 l6 hL5; obtain ⟨g0,g1,_,_⟩:=(HV.out _ K5).1.all; obtain ⟨g2,g3,_,_⟩:=(HV.out _ K5).2.1.all; have z4:=(HV.out _ K5).2.2.1; have e0:=z4.c0; have e1:=z4.c1; have e2:=z4.c2; have e3:=z4.c3; have y0:=z4.fz 0; have y1:=z4.fz 1; have y2:=z4.fz 2; have y3:=z4.fz 3))
 have HZ:=hid' (And.intro z4 (HV.out _ K5).2.2.2.1)
 clear q0 q1 q4 q5 d0 d1 d2 d3 g0 g1 g2 g3 hk4 hk5 K4 K5 HV z4
 go_wp2
 refine bodyPost_ret (v:=.agg #[.bool s5,.slice a5 k5 c5,.bool t5,.slice a6 k6 c6]) (by simp [results,Tryz.results53,go_sem,e0,e1,e2,e3]) rfl ⟨F.Kept.put4 HZ.out.2 HP.out _ _ _ _,_,N5,D5.toNat,rfl,⟨s5,a5,k5,c5,t5,a6,k6,c6,rfl,F.nset4 H5.out.1 HZ.out.1,?_,by have h1:=H5.out.2.2.1; have h2:=HL.out; omega,by have h1:=H5.out.2.2.2.1; have h2:=H4.out.2; omega⟩,scl_low hx H5.out.2.2.2.2⟩
 rw [show ((D5.toNat:Nat):Int) = D5 by have:=H5.out.2.2.2.2.pos; omega]
 exact F.nset4 H5.out.2.1 HZ.out.1
set_option maxRecDepth 100000 in
set_option maxHeartbeats 8000000 in
theorem of_pos (m x:Int) (h1:-9223372036854775808<=m) (h2:m<=9223372036854775807) (hx:¬ x < 0) (hx1:x<=50) (w:World) :
  Calls Tryz.prog 53 #[.agg #[.int .i64 m,.int .i64 x]] w fun e w' => Kept w w'/\FE w' e m x:=by
 have HM:=hid' (And.intro h1 h2)
 clear h1 h2
 go_enter Tryz.func53,Tryz.ntmps53
 go_upto_region 1 with fail
 have r1:=(Row2.alloc 26 w (.int .i64 m) (.int .i64 x)).kept ((Kept.refl _).alloc (.cells #[.bool false,.slice none 0 0,.bool false,.slice none 0 0] 89))
 have r2:=F.FRow.alloc (w.alloc (.cells #[.int .i64 m,.int .i64 x] 26)) (.bool false) (.slice none 0 0) (.bool false) (.slice none 0 0)
 have hK:=((Kept.refl w).alloc (.cells #[.int .i64 m,.int .i64 x] 26)).alloc (.cells #[.bool false,.slice none 0 0,.bool false,.slice none 0 0] 89)
 simp only [World.size_alloc] at r2
 generalize (w.alloc (.cells #[.int .i64 m,.int .i64 x] 26)).alloc (.cells #[.bool false,.slice none 0 0,.bool false,.slice none 0 0] 89) = W at r1 r2 hK ⊢
 obtain ⟨p2,hp2⟩:∃ p,p = w.heap.size + 1:=⟨_,rfl⟩
 rw [<- hp2] at r2 ⊢
 obtain ⟨p1,hp1⟩:∃ p,p = w.heap.size:=⟨_,rfl⟩
 rw [<- hp1] at r1 ⊢
 have HP:Hid (w.heap.size<=p2):=by show _<=_; omega
 have n21:¬ p2 = p1:=by omega
 clear hp1 hp2
 have HR:=hid' (And.intro r1 (And.intro r2 hK))
 obtain ⟨q0,q1,q2,q3⟩:=r1.all
 clear r1 r2 hK
 go_wp2_with fail
 refine (D.wide_any m _ HM.out.1 HM.out.2).mono ?_
 rintro e w3 ⟨hk3,s3,a3,k3,c3,rfl,n3,l3⟩
 have HL:=hid' l3
 have R1:=HR.out.1.kept hk3
 have R2:=HR.out.2.1.kept hk3
 have RK:=HR.out.2.2.trans hk3
 have l1:=R1.lt
 have l2:=R2.lt
 clear q0 q1 q2 q3 l3 hk3
 go_upto_region 2 with fail
 have hA:Kept w3 (w3.alloc (.cells #[.bool s3,.slice a3 k3 c3] 87)):=(Kept.refl w3).alloc _
 have r3:=Row2.alloc 87 w3 (.bool s3) (.slice a3 k3 c3)
 have r1:=R1.kept hA
 have r2:=R2.kept hA
 have hK:=RK.trans hA
 have n3':=n3.kept hA
 clear R1 R2 RK n3 HR
 generalize w3.alloc (.cells #[.bool s3,.slice a3 k3 c3] 87) = V at r1 r2 r3 hK n3' ⊢
 obtain ⟨p3,hp3⟩:∃ p,p = w3.heap.size:=⟨_,rfl⟩
 rw [<- hp3] at r3 ⊢
 have n23:¬ p2 = p3:=by omega
 have n13:¬ p1 = p3:=by omega
 have HV:Hid (∀ U,Kept V U->Row2 26 U p1 (.int .i64 m) (.int .i64 x)/\Row2 87 U p3 (.bool s3) (.slice a3 k3 c3)/\F.FRow U p2 (.bool false) (.slice none 0 0) (.bool false) (.slice none 0 0)/\Kept w U/\D.NIs U s3 (.slice a3 k3 c3) m/\True):=fun U hU => ⟨r1.kept hU,r3.kept hU,r2.kept hU,hK.trans hU,n3'.kept hU,trivial⟩
 obtain ⟨q0,q1,q2,q3⟩:=r1.all
 obtain ⟨q4,q5,q6,q7⟩:=r3.all
 clear hp3 r1 r2 r3 hK n3' l1 l2 hA q2 q3 q6 q7
 go_upto_region 4 with fail
 go_region_held3 (fun w' => w'.cell? ⟨p1,0,none⟩ = some (.int .i64 m)/\w'.cell? ⟨p1,1,none⟩ = some (.int .i64 x)/\w'.cell? ⟨p3,0,none⟩ = some (.bool s3)/\w'.cell? ⟨p3,1,none⟩ = some (.slice a3 k3 c3)) (go_keep) (first
  | (go_at_call 92; refine (rpower_int x (by omega) (by omega) _).mono ?_; rintro e w4 ⟨hk4,s4,a4,k4,c4,rfl,n4,l4⟩; have K4:=(Kept.refl V).drew.trans hk4; have H4:=hid' (And.intro n4 l4); clear n4 l4; obtain ⟨d0,d1,_,_⟩:=(HV.out _ K4).1.all; obtain ⟨d2,d3,_,_⟩:=(HV.out _ K4).2.1.all)
  | (go_at_call 71; refine (D.Times_any s3 s4 a3 a4 k3 k4 c3 c4 m (pw x.toNat) _ (HV.out _ K4).2.2.2.2.1 H4.out.1 (by have:=HL.out; omega) (by have:=H4.out.2; omega)).mono ?_; rintro e w5 ⟨hk5,s5,a5,k5,c5,rfl,n5,l5⟩; have K5:=K4.trans hk5; have H5:=hid' (And.intro n5 l5); clear n5 l5; obtain ⟨g0,g1,_,_⟩:=(HV.out _ K5).1.all; obtain ⟨g2,g3,_,_⟩:=(HV.out _ K5).2.1.all)
  | (go_at_call 68; refine (D.small_num 1 _ (by omega) (by omega)).mono ?_; rintro e w6 ⟨hk6,a6,k6,c6,rfl,n6,l6⟩; have K6:=K5.trans hk6; have H6:=hid' (And.intro n6 (And.intro l6 (H5.out.1.kept hk6))); clear n6 l6; obtain ⟨j0,j1,_,_⟩:=(HV.out _ K6).1.all; obtain ⟨j2,j3,_,_⟩:=(HV.out _ K6).2.1.all; have z4:=(HV.out _ K6).2.2.1; have e0:=z4.c0; have e1:=z4.c1; have e2:=z4.c2; have e3:=z4.c3; have y0:=z4.fz 0; have y1:=z4.fz 1; have y2:=z4.fz 2; have y3:=z4.fz 3))
 have HZ:=hid' (And.intro z4 (HV.out _ K6).2.2.2.1)
 clear q0 q1 q4 q5 d0 d1 d2 d3 g0 g1 g2 g3 j0 j1 j2 j3 hk4 hk5 hk6 K4 K5 K6 HV z4
 go_wp2
 refine bodyPost_ret (v:=.agg #[.bool s5,.slice a5 k5 c5,.bool false,.slice a6 k6 c6]) (by simp [results,Tryz.results53,go_sem,e0,e1,e2,e3]) rfl ⟨F.Kept.put4 HZ.out.2 HP.out _ _ _ _,_,m * pw x.toNat,1,rfl,⟨s5,a5,k5,c5,false,a6,k6,c6,rfl,F.nset4 H6.out.2.2 HZ.out.1,F.nset4 H6.out.1 HZ.out.1,by have h1:=H5.out.2; have h2:=HL.out; have h3:=H4.out.2; omega,by have h1:=H6.out.2.1; omega⟩,scl_whole (by omega)⟩
theorem of_any (m x:Int) (h1:-9223372036854775808<=m) (h2:m<=9223372036854775807) (h3:-50<=x) (h4:x<=50) (w:World) :
  Calls Tryz.prog 53 #[.agg #[.int .i64 m,.int .i64 x]] w fun e w' => Kept w w'/\FE w' e m x:=by
 by_cases h:x < 0
 ·
  exact of_neg m x h1 h2 h h3 w
 ·
  exact of_pos m x h1 h2 h h4 w
def FQ (w:World) (e:Ending) (X Y:Int) (k k':Nat):Prop:=∃ v,e = .returned v/\F.FIs w v X Y k k'
end Q
namespace V
open Q (okN okN_bd Scl hid')
theorem nis_short {w:World} {s:Bool} {ao:Option Addr} {k c:Nat} {z:Int} (h:D.NIs w s (.slice ao k c) z) (hz:z.natAbs<=10 ^ 100):k<=100:=by
 obtain ⟨l,h1,h2,rfl⟩:=h
 have e:=h1.len
 subst e
 rw [D.natAbs_int] at hz
 apply Classical.byContradiction
 intro hk
 have h3:=D.val_ge h2.tr (fun e => by rw [e] at hk; simp at hk)
 have h4:65536 ^ 100<=65536 ^ (l.length - 1):=Nat.pow_le_pow_right (by decide) (by omega)
 have h5:(10:Nat) ^ 100 < 65536 ^ 100:=by decide
 exact absurd (Nat.le_trans h4 (Nat.le_trans h3 hz)) (by omega)
def FT (w:World) (v:Value) (A:Int) (S:Nat):Prop:=∃ N D:Int,F.FIs w v N D 100 100/\0 < D/\Nat.gcd N.natAbs D.natAbs = 1/\N * (S:Int) = A * D
theorem FT.kept {w w':World} {v:Value} {A:Int} {S:Nat} (h:FT w v A S) (k:Kept w w'):FT w' v A S:=by
 obtain ⟨N,D,h1,h2⟩:=h
 exact ⟨N,D,h1.kept k,h2⟩
section
variable {v v':Value} {A A':Int} {S T:Nat} (w:World)
theorem ft_num (m x:Int) (h:okN m x = true):Calls Tryz.prog 53 #[.agg #[.int .i64 m,.int .i64 x]] w fun e w' => Kept w w'/\∃ u,e = .returned u/\FT w' u (U m x) (10 ^ 18):=by
 have hb:=okN_bd h
 refine (Q.of_any m x (by omega) (by omega) (by omega) (by omega) w).mono ?_
 rintro e w' ⟨hk,u,N,D,rfl,⟨s,ao,n,c,t,ap,n',c',rfl,h1,h2,h3,h4⟩,hs⟩
 have e1:=scl_u hb.2.2.1 hs
 have hbd:=low_bd hs.2.1 (by decide) e1
 have hu:=u_bd h
 have h36:(10:Nat) ^ 36<=10 ^ 100:=by decide
 have h18:(10:Nat) ^ 18<=10 ^ 100:=by decide
 exact ⟨hk,_,rfl,N,D,⟨s,ao,n,c,t,ap,n',c',rfl,h1,h2,nis_short h1 (by omega),nis_short h2 (by rw [Int.natAbs_natCast]; omega)⟩,by have:=hs.1; omega,by rw [Int.natAbs_natCast]; exact hs.2.1,e1⟩
end
end V
namespace Q
def RVal (B:Nat) (w':World) (e:Ending) (m x:Int):Prop :=
 (okN m x = false/\e = .returned (.tuple #[.agg #[.bool false,.slice none 0 0,.bool false,.slice none 0 0],.int .i64 30])) ∨ (okN m x = true/\∃ (s:Bool) (ao:Option Addr) (k c:Nat) (l:List Nat) (t:Bool) (ap:Option Addr) (k' c':Nat) (l':List Nat) (N:Int) (D:Nat),e = .returned (.tuple #[.agg #[.bool s,.slice ao k c,.bool t,.slice ap k' c'],.int .i64 0])/\New B w' (.slice ao k c) l/\New B w' (.slice ap k' c') l'/\M.Right s l/\M.Right t l'/\M.int s l = N/\M.int t l' = D/\Scl m x N D)
theorem digits_int (s:Bool) (ao:Option Addr) (k cap:Nat) (v:Int) (w:World) (h:D.NIs w s (.slice ao k cap) v) (h1:-999999999<=v) (h2:v<=999999999) (hk:k<=200) :
  Calls Tryz.prog 89 #[.agg #[.bool s,.slice ao k cap]] w fun e w' => Kept w w'/\∃ t:ByteArray,(t.data.toList = Lib.itoa v/\t.size<=10)/\e = .returned (.string t):=by
 obtain ⟨m,l,hr,hi,hv,hm⟩:∃ m l,M.Right m l/\M.int m l = v/\M.val l = v.natAbs/\m = decide (v < 0):=by
  by_cases h0:v = 0
  ·
   subst h0
   exact ⟨false,[],⟨fun x hx => by simp at hx,.inl rfl,by decide,fun _ => rfl⟩,rfl,rfl,rfl⟩
  ·
   refine ⟨decide (v < 0),[v.natAbs],⟨fun x hx => by simp at hx; omega,.inr (by simpa using h0),by simp,fun h => by cases h⟩,?_,by simp [M.val],rfl⟩
   unfold M.int
   by_cases hn:v < 0 <;> simp [hn,M.val] <;> omega
 rw [<- hi] at h
 refine (D.Digits_any s ao k cap m l w h hr hk).mono ?_
 rintro e w' ⟨hkk,S,hp,hd,rfl⟩
 have e1:(⟨(tx m S).toArray⟩:ByteArray).data.toList = Lib.itoa v:=by
  rw [itoa_sg,<- hv,<- hd,<- plain_dec hp,<- hm]
  show tx m S = _
  unfold tx sg
  cases m <;> rfl
 exact ⟨hkk,_,⟨e1,by rw [size_of e1]; exact itoa_len v h1 h2⟩,rfl⟩
theorem idxD (k:Nat) (h:k < 9):∃ nm:List UInt8,nm.length<=3/\(#[.string ⟨#[102]⟩,.string ⟨#[112]⟩,.string ⟨#[110]⟩,.string ⟨#[117]⟩,.string ⟨#[109]⟩,.string ⟨#[]⟩,.string ⟨#[107]⟩,.string ⟨#[109,101,103]⟩,.string ⟨#[103]⟩]:Array Value)[k]? = some (.string ⟨nm.toArray⟩)/\∀ x:Int,3 * (k:Int) - 15<=x->x < 3 * (k:Int) - 12->below x = some (nm,3 * (k:Int) - 15):=by
 match k,h with
 | 0,_ => exact ⟨[102],by decide,rfl,fun x h1 h2 => by
   rcases (show x = -15 ∨ x = -14 ∨ x = -13 by omega) with rfl | rfl | rfl <;> rfl⟩
 | 1,_ => exact ⟨[112],by decide,rfl,fun x h1 h2 => by
   rcases (show x = -12 ∨ x = -11 ∨ x = -10 by omega) with rfl | rfl | rfl <;> rfl⟩
 | 2,_ => exact ⟨[110],by decide,rfl,fun x h1 h2 => by
   rcases (show x = -9 ∨ x = -8 ∨ x = -7 by omega) with rfl | rfl | rfl <;> rfl⟩
 | 3,_ => exact ⟨[117],by decide,rfl,fun x h1 h2 => by
   rcases (show x = -6 ∨ x = -5 ∨ x = -4 by omega) with rfl | rfl | rfl <;> rfl⟩
 | 4,_ => exact ⟨[109],by decide,rfl,fun x h1 h2 => by
   rcases (show x = -3 ∨ x = -2 ∨ x = -1 by omega) with rfl | rfl | rfl <;> rfl⟩
 | 5,_ => exact ⟨[],by decide,rfl,fun x h1 h2 => by
   rcases (show x = 0 ∨ x = 1 ∨ x = 2 by omega) with rfl | rfl | rfl <;> rfl⟩
 | 6,_ => exact ⟨[107],by decide,rfl,fun x h1 h2 => by
   rcases (show x = 3 ∨ x = 4 ∨ x = 5 by omega) with rfl | rfl | rfl <;> rfl⟩
 | 7,_ => exact ⟨[109,101,103],by decide,rfl,fun x h1 h2 => by
   rcases (show x = 6 ∨ x = 7 ∨ x = 8 by omega) with rfl | rfl | rfl <;> rfl⟩
 | 8,_ => exact ⟨[103],by decide,rfl,fun x h1 h2 => by
   rcases (show x = 9 ∨ x = 10 ∨ x = 11 by omega) with rfl | rfl | rfl <;> rfl⟩
theorem text_nil:textOf 0 0 = [48]:=by
 have e:below 0 = some ([],0):=rfl
 unfold textOf
 rw [e,itoa_sg]
 show sg false ++ Lib.decDigits 0 ++ _ ++ _ = _
 rw [Lib.decDigits,dif_pos (by decide)]
 rfl
theorem text_low {m x:Int} (h:x < -15) (h9:x<=9):textOf m x = Lib.itoa m ++ [101,45] ++ Lib.itoa (-x):=by
 rcases below_cases h9 with ⟨_,hn⟩ | ⟨nm,y,hn,hm,h2,h3⟩
 ·
  unfold textOf
  rw [hn,itoa_sg x,itoa_sg (-x),Int.natAbs_neg,decide_eq_true (show x < 0 by omega),decide_eq_false (show ¬ -x < 0 by omega)]
  simp [sg]
 ·
  exfalso
  have hc:∀ p ∈ names,-15<=p.2:=by decide
  have:=hc _ hm
  omega
set_option maxRecDepth 100000 in
set_option maxHeartbeats 16000000 in
theorem rtext_any (m x:Int) (w:World):Calls Tryz.prog 84 #[.agg #[.int .i64 m,.int .i64 x]] w fun e w' => Kept w w'/\TextIs e m x:=by
 go_enter Tryz.func84,Tryz.ntmps84
 go_upto_region 1 with fail
 have hK:=(Kept.refl w).alloc (.cells #[.int .i64 m,.int .i64 x] 26)
 have hR:=Row2.alloc 26 w (.int .i64 m) (.int .i64 x)
 generalize w.alloc (.cells #[.int .i64 m,.int .i64 x] 26) = W at hK hR ⊢
 obtain ⟨p1,hp1⟩:∃ p,p = w.heap.size:=⟨_,rfl⟩
 rw [<- hp1] at hR ⊢
 have HK:=hid' hK
 have HR:=hid' hR
 obtain ⟨q0,q1,q2,q3⟩:=hR.all
 clear hp1 hK hR
 go_wp2_with fail
 refine (RValid_any m x _).mono ?_
 rintro e w1 ⟨hk1,rfl⟩
 have HK1:=hid' hk1
 clear hk1 q0 q1 q2 q3
 by_cases ho:okN m x = true
 ·
  have hb:=okN_bd ho
  rw [ho]
  have HO:=hid' ho
  obtain ⟨q0,q1,q2,q3⟩:=(HR.out.kept HK1.out).all
  by_cases hm0:m = 0
  ·
   have hx0:x = 0:=by
    rcases okN_iff.1 ho with ⟨_,h⟩ | ⟨h,_⟩
    ·
     exact h
    ·
     exact absurd hm0 h
   subst hm0 hx0
   clear ho
   go_wp2_with fail
   go_ret2
   exact ⟨HK.out.trans HK1.out,.inr ⟨HO.out,⟨#[48]⟩,text_nil.symm,rfl⟩⟩
  ·
   have hmz:(m == 0) = false:=by simpa using hm0
   clear ho
   go_wp2_with fail
   refine (D.wide_any m _ (by omega) (by omega)).mono ?_
   rintro e w2 ⟨hk2,s2,a2,k2,c2,rfl,n2,l2⟩
   have HK2:=hid' (HK1.out.trans hk2)
   have H2:=hid' (And.intro n2 l2)
   clear hk2 n2 l2 q0 q1 q2 q3
   go_wp2_with fail
   refine (digits_int s2 a2 k2 c2 m _ H2.out.1 hb.1 hb.2.1 (by have:=H2.out.2; omega)).mono ?_
   rintro e w3 ⟨hk3,d,hd,rfl⟩
   have HK3:=hid' (HK2.out.trans hk3)
   have Hd:=hid' hd.1
   have hds:=hd.2
   clear hk3 hd
   obtain ⟨q0,q1,q2,q3⟩:=(HR.out.kept HK3.out).all
   by_cases hx:x < -15
   ·
    have hwn:IntKind.i64.wrap (-x) = -x:=wrap_i64' (by omega) (by omega)
    have hA:¬ 9223372036854775807 < d.size + 2:=by omega
    have hA':¬ 9223372036854775807 < d.size + (⟨#[101,45]⟩:ByteArray).size:=by show ¬ _ < _ + 2; omega
    go_wp2_with fail
    refine (D.small_num (-x) _ (by omega) (by omega)).mono ?_
    rintro e w4 ⟨hk4,a4,k4,c4,rfl,n4,l4⟩
    have K4:=hid' (HK3.out.trans hk4)
    have H4:=hid' (And.intro n4 l4)
    clear n4 l4 hk4
    go_wp2_with fail
    refine (digits_int false a4 k4 c4 (-x) _ H4.out.1 (by omega) (by omega) (by have:=H4.out.2; omega)).mono ?_
    rintro e w5 ⟨hk5,z,hz,rfl⟩
    have HK5:=hid' (HK.out.trans (K4.out.trans hk5))
    have Hz:=hid' hz.1
    have hzs:=hz.2
    have hB:¬ 9223372036854775807 < d.size + 2 + z.size:=by omega
    have hB':¬ 9223372036854775807 < (d ++ (⟨#[101,45]⟩:ByteArray)).size + z.size:=by rw [ByteArray.size_append]; exact hB
    clear hz hk5 q0 q1 q2 q3
    go_wp2_with fail
    go_ret2
    exact ⟨HK5.out,.inr ⟨HO.out,d ++ ⟨#[101,45]⟩ ++ z,by rw [text_low hx hb.2.2.2]; simp [ByteArray.data_append,Hd.out,Hz.out],rfl⟩⟩
   ·
    go_upto_region 9 with fail
    have hK4:=HK3.out.alloc (.cells #[.string ⟨#[102]⟩,.string ⟨#[112]⟩,.string ⟨#[110]⟩,.string ⟨#[117]⟩,.string ⟨#[109]⟩,.string ⟨#[]⟩,.string ⟨#[107]⟩,.string ⟨#[109,101,103]⟩,.string ⟨#[103]⟩] 9)
    have hC:∀ k,(w3.alloc (.cells #[.string ⟨#[102]⟩,.string ⟨#[112]⟩,.string ⟨#[110]⟩,.string ⟨#[117]⟩,.string ⟨#[109]⟩,.string ⟨#[]⟩,.string ⟨#[107]⟩,.string ⟨#[109,101,103]⟩,.string ⟨#[103]⟩] 9)).cell? ⟨w3.heap.size,k,none⟩ = (#[.string ⟨#[102]⟩,.string ⟨#[112]⟩,.string ⟨#[110]⟩,.string ⟨#[117]⟩,.string ⟨#[109]⟩,.string ⟨#[]⟩,.string ⟨#[107]⟩,.string ⟨#[109,101,103]⟩,.string ⟨#[103]⟩]:Array Value)[k]?:=fun k => World.cell?_alloc_at _ _ _ _ rfl
    generalize w3.alloc (.cells #[.string ⟨#[102]⟩,.string ⟨#[112]⟩,.string ⟨#[110]⟩,.string ⟨#[117]⟩,.string ⟨#[109]⟩,.string ⟨#[]⟩,.string ⟨#[107]⟩,.string ⟨#[109,101,103]⟩,.string ⟨#[103]⟩] 9) = W4 at hK4 hC ⊢
    obtain ⟨p4,hp4⟩:∃ p,p = w3.heap.size:=⟨_,rfl⟩
    rw [<- hp4] at hC ⊢
    have HK4:=hid' hK4
    have HC:=hid' hC
    clear hp4 hK4 hC q0 q1 q2 q3
    obtain ⟨q0,q1,q2,q3⟩:=(HR.out.kept HK4.out).all
    go_wp2_with fail
    go_loopw [4,6] (fun vs vi wr => ∃ i:Nat,i < 9/\vs = .string d/\vi = .int .i64 (i:Int)/\wr = W4/\x < 3 * (i:Int) - 12) (fun _ vi _ => (intOf vi).toNat)
    case atStart => exact ⟨8,by omega,rfl,rfl,rfl,by omega⟩
    case round =>
     obtain ⟨i,hi,rfl,rfl,hwr,hxi⟩:=hrel
     subst hwr
     have hi0:(0:Int)<=(i:Int):=by omega
     have hw1:IntKind.i64.wrap (3 * (i:Int)) = 3 * (i:Int):=wrap_i64' (by omega) (by omega)
     have hw2:IntKind.i64.wrap (3 * (i:Int) - 15) = 3 * (i:Int) - 15:=wrap_i64' (by omega) (by omega)
     by_cases hle:3 * (i:Int) - 15<=x
     ·
      obtain ⟨nm,hnl,hcv,hbe⟩:=idxD i hi
      have hc:=(HC.out i).trans hcv
      have HB:=hid' (hbe x hle hxi)
      clear hcv hbe
      obtain ⟨nb,hnb⟩:∃ d:ByteArray,d = ⟨nm.toArray⟩:=⟨_,rfl⟩
      rw [<- hnb] at hc
      have Hn:Hid (nb.data.toList = nm):=by show _ = _; rw [hnb]
      have hns:nb.size<=3:=by rw [size_of Hn.out]; exact hnl
      clear hnb
      go_wp2_with fail
      go_loopw [4,7] (fun vs vk wq => ∃ (c:Nat) (t:ByteArray),vs = .string t/\vk = .int .i64 (3 * (i:Int) - 15 + (c:Int))/\3 * (i:Int) - 15 + (c:Int)<=x/\wq = wr/\t.size<=20/\Hid (t.data.toList = Lib.itoa m ++ List.replicate c 48)) (fun _ vk _ => (x - intOf vk).toNat)
      case atStart => exact ⟨0,d,rfl,by simp,by omega,rfl,by omega,by show _ = _; rw [Hd.out]; simp⟩
      case round =>
       obtain ⟨c,t,rfl,rfl,hcx,hwq,hts,Ht⟩:=hrel
       subst hwq
       have hc2:c<=2:=by omega
       have htl:t.size<=12:=by rw [size_of Ht.out,List.length_append,List.length_replicate]; have:=itoa_len m hb.1 hb.2.1; omega
       by_cases hlt:3 * (i:Int) - 15 + (c:Int) < x
       ·
        have hw3:IntKind.i64.wrap (3 * (i:Int) - 15 + (c:Int) + 1) = 3 * (i:Int) - 15 + (c:Int) + 1:=wrap_i64' (by omega) (by omega)
        have hA:¬ 9223372036854775807 < t.size + 1:=by omega
        have hA':¬ 9223372036854775807 < t.size + (⟨#[48]⟩:ByteArray).size:=by show ¬ _ < _ + 1; omega
        go_wp2_with fail
        go_roundw
        case rel => exact ⟨c + 1,t ++ ⟨#[48]⟩,rfl,by congr 1; omega,by omega,trivial,by rw [ByteArray.size_append]; show _ + 1<=_; omega,by show _ = _; rw [ByteArray.data_append,Array.toList_append,Ht.out,List.append_assoc,<- List.replicate_succ']⟩
        case measure => show (x - (3 * (i:Int) - 15 + (c:Int) + 1)).toNat < (x - (3 * (i:Int) - 15 + (c:Int))).toNat; omega
       ·
        have hA:¬ 9223372036854775807 < t.size + nb.size:=by omega
        go_wp2_with fail
        go_ret2
        exact ⟨HK.out.trans HK4.out,.inr ⟨HO.out,t ++ nb,by unfold textOf; rw [HB.out]; simp [ByteArray.data_append,Ht.out,Hn.out]; omega,rfl⟩⟩
     ·
      have hi1:1<=i:=by omega
      have hwi:IntKind.i64.wrap ((i:Int) - 1) = (i:Int) - 1:=wrap_i64' (by omega) (by omega)
      go_wp2_with fail
      go_roundw
      case rel => exact ⟨i - 1,by omega,rfl,by congr 1; omega,trivial,by omega⟩
      case measure => show ((i:Int) - 1).toNat < (i:Int).toNat; omega
 ·
  have ho:okN m x = false:=by simpa using ho
  rw [ho]
  have HO:=hid' ho
  clear ho
  go_wp2
  go_ret2
  exact ⟨HK.out.trans HK1.out,.inl ⟨HO.out,rfl⟩⟩
end Q
end Go.Proofs.YtembglnonhlnkaaGreatDoor
