/- shuntlaw05.awake. ModelRises. ModelUnbroken. -/
import Derived.Test.YthfbfbfambbkaaaGreatDoorGas
import Derived.Test.YthfbfbfambbkaaaGreatDoorOc3
import Derived.Test.YthfbfbfambbkaaaGreatDoorGat
import Derived.Test.YthfbfbfambbkaaaGreatDoorTxg
import Derived.Test.YthfbfbfambbkaaaGreatDoorGam
namespace Go.Proofs.YthfbfbfambbkaaaGreatDoor
open Go.RowKit
namespace V
open Q (hid' Row3 Row2 okN okN_bd Scl RQ)
theorem rowM (t:TypeId) (w:World) (xs:Array Value):(w.alloc (.cells xs t)).rowIs w.heap.size t xs.size (fun i => xs.getD i (.bool false)) :=
 World.rowIs_alloc w xs t _ (fun i hi => by simp [Array.getD,hi])
theorem rt_is {B:Nat} {w:World} {v:Value} {A N':Int} {S D':Nat} (h:RT B w v A S) (hS:0 < S) (hD:0 < D') (hc:Nat.gcd N'.natAbs D' = 1) (he:N' * (S:Int) = A * D'):RQ B w v N' D':=by
 obtain ⟨N,D,q,e⟩:=h
 have hl:=q.low
 have key:N * (D':Int) = N' * D:=by
  apply Int.eq_of_mul_eq_mul_right (show (S:Int) ≠ 0 by omega)
  calc N * D' * S = N * S * D':=Int.mul_right_comm _ _ _
   _ = A * D * D':=by rw [e]
   _ = A * D' * D:=Int.mul_right_comm _ _ _
   _ = N' * S * D:=by rw [he]
   _ = N' * D * S:=Int.mul_right_comm _ _ _
 have kn:=congrArg Int.natAbs key
 rw [Int.natAbs_mul,Int.natAbs_mul,Int.natAbs_natCast,Int.natAbs_natCast] at kn
 have d1:D ∣ D':=(Nat.Coprime.symm hl.2).dvd_of_dvd_mul_left (by rw [kn]; exact Nat.dvd_mul_left _ _)
 have d2:D' ∣ D:=(Nat.Coprime.symm (show Nat.Coprime N'.natAbs D' from hc)).dvd_of_dvd_mul_left (by rw [← kn]; exact Nat.dvd_mul_left _ _)
 have eD:D = D':=Nat.dvd_antisymm d1 d2
 subst eD
 have eN:N = N':=Int.eq_of_mul_eq_mul_right (show (D:Int) ≠ 0 by omega) key
 subst eN
 exact q
set_option maxRecDepth 100000 in
set_option maxHeartbeats 8000000 in
theorem awakeM_any (w:World) (ht:Tab w):Calls Tryz.prog 7 #[] w fun e w' => Kept w w'∧e = .returned (.bool true):=by
 have HT:=hid' ht
 clear ht
 go_enter Tryz.func7,Tryz.ntmps7
 go_upto_region 2 with fail
 have hK:=((Kept.refl w).alloc (.cells #[.int .i64 1,.int .i64 (-6),.int .i64 1,.int .i64 (-1)] 48)).alloc (.cells #[.int .i64 7,.int .i64 (-1)] 48) |>.alloc (.cells #[.string ⟨#[100]⟩,.int .u8 100,.slice (some ⟨w.heap.size,0,none⟩) 2 2,.slice (some ⟨w.heap.size + 1,0,none⟩) 1 1] 24)
 have r1:=(rowM 48 w #[.int .i64 1,.int .i64 (-6),.int .i64 1,.int .i64 (-1)]).of_block (((Kept.refl _).alloc (.cells #[.int .i64 7,.int .i64 (-1)] 48)).block w.heap.size (rowM 48 w #[.int .i64 1,.int .i64 (-6),.int .i64 1,.int .i64 (-1)]).lt)
 have r2:=rowM 48 (w.alloc (.cells #[.int .i64 1,.int .i64 (-6),.int .i64 1,.int .i64 (-1)] 48)) #[.int .i64 7,.int .i64 (-1)]
 rw [World.size_alloc] at r2
 have hR:=Row4.alloc 24 ((w.alloc (.cells #[.int .i64 1,.int .i64 (-6),.int .i64 1,.int .i64 (-1)] 48)).alloc (.cells #[.int .i64 7,.int .i64 (-1)] 48)) (.string ⟨#[100]⟩) (.int .u8 100) (.slice (some ⟨w.heap.size,0,none⟩) 2 2) (.slice (some ⟨w.heap.size + 1,0,none⟩) 1 1)
 simp only [World.size_alloc] at hR
 have hK3:=(Kept.refl ((w.alloc (.cells #[.int .i64 1,.int .i64 (-6),.int .i64 1,.int .i64 (-1)] 48)).alloc (.cells #[.int .i64 7,.int .i64 (-1)] 48))).alloc (.cells #[.string ⟨#[100]⟩,.int .u8 100,.slice (some ⟨w.heap.size,0,none⟩) 2 2,.slice (some ⟨w.heap.size + 1,0,none⟩) 1 1] 24)
 have hG:NSl ((w.alloc (.cells #[.int .i64 1,.int .i64 (-6),.int .i64 1,.int .i64 (-1)] 48)).alloc (.cells #[.int .i64 7,.int .i64 (-1)] 48)) (.slice (some ⟨w.heap.size,0,none⟩) 2 2) [((1:Int),(-6:Int)),(1,-1)]:=⟨_,2,rfl,fun _ => ⟨w.heap.size,0,rfl,r1.lt,fun j hj => by
  match j,hj with
  | 0,_ => exact ⟨r1.cell (i:=0) (show 0 < 4 by decide),r1.cell (i:=1) (show 1 < 4 by decide)⟩
  | 1,_ => exact ⟨r1.cell (i:=2) (show 2 < 4 by decide),r1.cell (i:=3) (show 3 < 4 by decide)⟩⟩⟩
 have hV:NSl ((w.alloc (.cells #[.int .i64 1,.int .i64 (-6),.int .i64 1,.int .i64 (-1)] 48)).alloc (.cells #[.int .i64 7,.int .i64 (-1)] 48)) (.slice (some ⟨w.heap.size + 1,0,none⟩) 1 1) [((7:Int),(-1:Int))]:=⟨_,1,rfl,fun _ => ⟨w.heap.size + 1,0,rfl,r2.lt,fun j hj => by
  match j,hj with
  | 0,_ => exact ⟨r2.cell (i:=0) (show 0 < 2 by decide),r2.cell (i:=1) (show 1 < 2 by decide)⟩⟩⟩
 have hG:=hG.kept hK3
 have hV:=hV.kept hK3
 clear r1 r2 hK3
 generalize ((w.alloc (.cells #[.int .i64 1,.int .i64 (-6),.int .i64 1,.int .i64 (-1)] 48)).alloc (.cells #[.int .i64 7,.int .i64 (-1)] 48)).alloc (.cells #[.string ⟨#[100]⟩,.int .u8 100,.slice (some ⟨w.heap.size,0,none⟩) 2 2,.slice (some ⟨w.heap.size + 1,0,none⟩) 1 1] 24) = W at hK hR hG hV ⊢
 obtain ⟨p3,hp3⟩:∃ p,p = w.heap.size + 1 + 1:=⟨_,rfl⟩
 rw [← hp3] at hR ⊢
 obtain ⟨p2,hp2⟩:∃ p,p = w.heap.size + 1:=⟨_,rfl⟩
 rw [← hp2] at hR hV ⊢
 obtain ⟨p1,hp1⟩:∃ p,p = w.heap.size:=⟨_,rfl⟩
 rw [← hp1] at hR hG ⊢
 clear hp1 hp2 hp3
 have HK:=hid' (And.intro hK hR)
 have HN:=hid' (And.intro hG hV)
 have q0:=hR.c0
 have q1:=hR.c1
 have q2:=hR.c2
 have q3:=hR.c3
 clear hK hR hG hV
 go_wp2_with fail
 refine (partM_any ⟨#[100]⟩ 100 _ _ 2 2 1 1 [((1:Int),(-6:Int)),(1,-1)] [((7:Int),(-1:Int))] 1 _ (by decide) HN.out.1 HN.out.2 (by decide) (by decide)).mono ?_
 rintro e w1 ⟨hk1,hP⟩
 rcases hP with ⟨h0,_⟩ | ⟨_,u,v,rfl,ru,rv⟩
 ·
  exact absurd (show refM [100] 100 [((1:Int),(-6:Int)),(1,-1)] [((7:Int),(-1:Int))] 1 = 0 by kernel_rfl) h0
 have ru:=rt_is (N':=1) (D':=10) ru (by decide) (by decide) (by decide) (by decide +kernel)
 have rv:=rt_is (N':=-69999300) (D':=1) rv (by decide) (by decide) (by decide) (by decide +kernel)
 obtain ⟨g0,g1,g2,g3,g4,g5,g6,gl,gl',rfl,gn1,gn2,gr,gi,gv⟩:=ru
 obtain ⟨c0,c1,c2,c3,c4,c5,c6,cl,cl',rfl,cn1,cn2,cr,ci,cv⟩:=rv
 obtain ⟨_,rfl⟩:=F.one_limb (x:=10) (gr.rd.right gn2.sl.1) (by rw [show M.int false gl' = (M.val gl':Int) by simp [M.int],gv]) (by decide) (by decide)
 obtain ⟨rfl,rfl⟩:=F.one_limb' (x:=69999300) (cr.ra.right cn1.sl.1) (by rw [ci]; rfl) (by decide) (by decide)
 have HGC:=hid' (And.intro gn2.sl (And.intro cn1.sl cr.ra))
 have HK:=hid' (And.intro (HK.out.1.trans hk1) (HK.out.2.kept hk1))
 have HN:=hid' (And.intro (HN.out.1.kept hk1) (HN.out.2.kept hk1))
 clear hk1 q0 q1 q2 q3 gn1 gn2 gr gi gv cn1 cn2 cr ci cv
 go_upto_region 3 with fail
 have hG1:=(F.RRow.alloc w1 (.bool g0) (.slice g1 g3 g4) (.bool false) (.slice g2 g5 g6)).kept ((Kept.refl (w1.alloc (.cells #[.bool g0,.slice g1 g3 g4,.bool false,.slice g2 g5 g6] 29))).alloc (.cells #[.bool true,.slice c1 c3 c4,.bool false,.slice c2 c5 c6] 29))
 have hC1:=F.RRow.alloc (w1.alloc (.cells #[.bool g0,.slice g1 g3 g4,.bool false,.slice g2 g5 g6] 29)) (.bool true) (.slice c1 c3 c4) (.bool false) (.slice c2 c5 c6)
 have kA:=(((Kept.refl w1).alloc (.cells #[.bool g0,.slice g1 g3 g4,.bool false,.slice g2 g5 g6] 29)).alloc (.cells #[.bool true,.slice c1 c3 c4,.bool false,.slice c2 c5 c6] 29))
 simp only [World.size_alloc] at hC1
 generalize (w1.alloc (.cells #[.bool g0,.slice g1 g3 g4,.bool false,.slice g2 g5 g6] 29)).alloc (.cells #[.bool true,.slice c1 c3 c4,.bool false,.slice c2 c5 c6] 29) = W1 at hG1 hC1 kA ⊢
 obtain ⟨pc,hqpc⟩:∃ q,q = w1.heap.size + 1:=⟨_,rfl⟩
 rw [← hqpc] at hC1 ⊢
 obtain ⟨pg,hqpg⟩:∃ q,q = w1.heap.size:=⟨_,rfl⟩
 rw [← hqpg] at hG1 ⊢
 clear hqpg hqpc
 have HK:=hid' (And.intro (HK.out.1.trans kA) (HK.out.2.kept kA))
 have HN:=hid' (And.intro (HN.out.1.kept kA) (HN.out.2.kept kA))
 have HGC:=hid' (And.intro (HGC.out.1.kept kA) (And.intro (HGC.out.2.1.kept kA) HGC.out.2.2))
 have HB:=hid' (And.intro hG1 hC1)
 clear kA hG1 hC1
 go_wp2_with fail
 refine (of_any 700000001 _ (by omega) (by omega)).mono ?_
 rintro e w2 ⟨hk2,s2,a2,n2,k2,l2,rfl,hn2,hr2,hv2⟩
 obtain ⟨rfl,rfl⟩:=F.one_limb (x:=700000001) hr2 hv2 (by decide) (by decide)
 have HA2:=hid' (And.intro hn2.sl (R.of_right hr2))
 have HK:=hid' (And.intro (HK.out.1.trans hk2) (HK.out.2.kept hk2))
 have HN:=hid' (And.intro (HN.out.1.kept hk2) (HN.out.2.kept hk2))
 have HGC:=hid' (And.intro (HGC.out.1.kept hk2) (And.intro (HGC.out.2.1.kept hk2) HGC.out.2.2))
 have HB:=hid' (And.intro (HB.out.1.kept hk2) (HB.out.2.kept hk2))
 clear hk2
 clear hn2 hr2 hv2
 go_wp2_with fail
 refine (of_any 1 _ (by omega) (by omega)).mono ?_
 rintro e w3 ⟨hk3,s3,a3,n3,k3,l3,rfl,hn3,hr3,hv3⟩
 obtain ⟨rfl,rfl⟩:=F.one_limb (x:=1) hr3 hv3 (by decide) (by decide)
 have HA2:=hid' (And.intro (HA2.out.1.kept hk3) HA2.out.2)
 have HA3:=hid' (And.intro hn3.sl (R.of_right hr3))
 have HK:=hid' (And.intro (HK.out.1.trans hk3) (HK.out.2.kept hk3))
 have HN:=hid' (And.intro (HN.out.1.kept hk3) (HN.out.2.kept hk3))
 have HGC:=hid' (And.intro (HGC.out.1.kept hk3) (And.intro (HGC.out.2.1.kept hk3) HGC.out.2.2))
 have HB:=hid' (And.intro (HB.out.1.kept hk3) (HB.out.2.kept hk3))
 clear hk3
 clear hn3 hr3 hv3
 go_wp2_with fail
 refine (F.Make_ok false false a2 a3 n2 k2 n3 k3 [700000001] [1] _ HA2.out.1 HA3.out.1 HA2.out.2 HA3.out.2 (by decide)).mono ?_
 rintro e w4 ⟨hk4,v,X,Y,rfl,hRN,gd,hg1,hg2,hg3,hg4⟩
 have hgd:gd = 1:=by
  have e1:gd.natAbs = 1:=by rw [hg1]; decide
  have e2:¬ gd < 0:=fun h => absurd (hg4.1 h) (by decide)
  omega
 subst hgd
 obtain ⟨t0,t1,t3,t4,tl,tn,t2,t5,t6,tl',rfl,tn1,tr1,ti1,tn2,tr2,ti2,tR⟩:=hRN
 obtain ⟨rfl,rfl⟩:=F.one_limb (x:=700000001) tr1 (by rw [ti1]; rw [Int.mul_one] at hg2; rw [hg2]; rfl) (by decide) (by decide)
 obtain ⟨rfl,rfl⟩:=F.one_limb (x:=1) tr2 (by rw [ti2]; rw [Int.mul_one] at hg3; rw [hg3]; rfl) (by decide) (by decide)
 have HU:=hid' (And.intro tn1.sl (And.intro tn2.sl tR))
 have HK:=hid' (And.intro (HK.out.1.trans hk4) (HK.out.2.kept hk4))
 have HN:=hid' (And.intro (HN.out.1.kept hk4) (HN.out.2.kept hk4))
 have HGC:=hid' (And.intro (HGC.out.1.kept hk4) (And.intro (HGC.out.2.1.kept hk4) HGC.out.2.2))
 have HB:=hid' (And.intro (HB.out.1.kept hk4) (HB.out.2.kept hk4))
 clear hk4
 clear HA2 HA3 tn1 tn2 tr1 tr2 ti1 ti2 tR hg1 hg2 hg3 hg4
 go_upto_region 4 with fail
 have hU1:=F.RRow.alloc w4 (.bool false) (.slice t1 t3 t4) (.bool false) (.slice t2 t5 t6)
 have kA:=((Kept.refl w4).alloc (.cells #[.bool false,.slice t1 t3 t4,.bool false,.slice t2 t5 t6] 29))
 generalize w4.alloc (.cells #[.bool false,.slice t1 t3 t4,.bool false,.slice t2 t5 t6] 29) = W4 at hU1 kA ⊢
 obtain ⟨pu,hqpu⟩:∃ q,q = w4.heap.size:=⟨_,rfl⟩
 rw [← hqpu] at hU1 ⊢
 have HU:=hid' (And.intro (HU.out.1.kept kA) (And.intro (HU.out.2.1.kept kA) (And.intro HU.out.2.2 hU1)))
 have HK:=hid' (And.intro (HK.out.1.trans kA) (HK.out.2.kept kA))
 have HN:=hid' (And.intro (HN.out.1.kept kA) (HN.out.2.kept kA))
 have HGC:=hid' (And.intro (HGC.out.1.kept kA) (And.intro (HGC.out.2.1.kept kA) HGC.out.2.2))
 have HB:=hid' (And.intro (HB.out.1.kept kA) (HB.out.2.kept kA))
 clear kA
 clear hqpu hU1
 have q0:=HK.out.2.c0
 have q1:=HK.out.2.c1
 have q2:=HK.out.2.c2
 have q3:=HK.out.2.c3
 have u0:=HU.out.2.2.2.c0
 have u1:=HU.out.2.2.2.c1
 have u2:=HU.out.2.2.2.c2
 have u3:=HU.out.2.2.2.c3
 go_wp2_with fail
 refine (sideM_any ⟨#[100]⟩ 100 _ _ 2 2 1 1 [((1:Int),(-6:Int)),(1,-1)] [((7:Int),(-1:Int))] 0 false false _ _ _ _ _ _ [700000001] [1] _ (by decide) HN.out.1 HN.out.2 (by decide) (by decide) HU.out.1 HU.out.2.1 (by decide) (by decide)).mono ?_
 rintro e w5 ⟨hk5,z,f,rfl,hS⟩
 obtain ⟨rfl,hz⟩:=side_ok (s:=[100]) (k:=100) (gs:=[((1:Int),(-6:Int)),(1,-1)]) (q:=0) (by kernel_rfl) (by decide) HU.out.2.2.1 hS
 have hz':z = 1:=by rw [hz]; kernel_rfl
 subst hz'
 have HU:=hid' (And.intro (HU.out.1.kept hk5) (And.intro (HU.out.2.1.kept hk5) (And.intro HU.out.2.2.1 (HU.out.2.2.2.kept hk5))))
 have HK:=hid' (And.intro (HK.out.1.trans hk5) (HK.out.2.kept hk5))
 have HN:=hid' (And.intro (HN.out.1.kept hk5) (HN.out.2.kept hk5))
 have HGC:=hid' (And.intro (HGC.out.1.kept hk5) (And.intro (HGC.out.2.1.kept hk5) HGC.out.2.2))
 have HB:=hid' (And.intro (HB.out.1.kept hk5) (HB.out.2.kept hk5))
 clear hk5
 clear q0 q1 q2 q3 u0 u1 u2 u3 hS hz
 have q0:=HK.out.2.c0
 have q1:=HK.out.2.c1
 have q2:=HK.out.2.c2
 have q3:=HK.out.2.c3
 have u0:=HU.out.2.2.2.c0
 have u1:=HU.out.2.2.2.c1
 have u2:=HU.out.2.2.2.c2
 have u3:=HU.out.2.2.2.c3
 go_wp2_with fail
 refine (findM_any ⟨#[100]⟩ 100 _ _ 2 2 1 1 [((1:Int),(-6:Int)),(1,-1)] [((7:Int),(-1:Int))] false false _ _ _ _ _ _ [700000001] [1] _ (by decide) HN.out.1 HN.out.2 (by decide) (by decide) HU.out.1 HU.out.2.1 (by decide) (by decide)).mono ?_
 rintro e w6 ⟨hk6,z,f,rfl,hS⟩
 obtain ⟨rfl,hz⟩:=find_ok (by kernel_rfl) HU.out.2.2.1 hS
 have hz':z = 1:=by rw [hz]; kernel_rfl
 subst hz'
 have HK:=hid' (And.intro (HK.out.1.trans hk6) (HK.out.2.kept hk6))
 have HN:=hid' (And.intro (HN.out.1.kept hk6) (HN.out.2.kept hk6))
 have HGC:=hid' (And.intro (HGC.out.1.kept hk6) (And.intro (HGC.out.2.1.kept hk6) HGC.out.2.2))
 have HB:=hid' (And.intro (HB.out.1.kept hk6) (HB.out.2.kept hk6))
 clear hk6
 clear q0 q1 q2 q3 u0 u1 u2 u3 hS hz HU
 have f0:=HB.out.2.c0
 have f1:=HB.out.2.c1
 go_wp2_with fail
 refine (text_any true _ [69999300] _ HGC.out.2.1 HGC.out.2.2 (HT.out.kept HK.out.1)).mono ?_
 rintro e w7 ⟨hk7,D,hpl,_,hdv,rfl⟩
 have hD:D = [54,57,57,57,57,51,48,48]:=by rw [plain_dec hpl,hdv]; kernel_rfl
 subst hD
 rw [show (tx true [54,57,57,57,57,51,48,48]).toArray = #[45,54,57,57,57,57,51,48,48] from rfl]
 have HK:=hid' (And.intro (HK.out.1.trans hk7) (HK.out.2.kept hk7))
 have HN:=hid' (And.intro (HN.out.1.kept hk7) (HN.out.2.kept hk7))
 have HGC:=hid' (And.intro (HGC.out.1.kept hk7) (And.intro (HGC.out.2.1.kept hk7) HGC.out.2.2))
 have HB:=hid' (And.intro (HB.out.1.kept hk7) (HB.out.2.kept hk7))
 clear hk7
 clear f0 f1 hpl hdv
 obtain ⟨e5,_,gb,go,rfl,hcell⟩:=F.Sl.one HGC.out.1
 subst e5
 have q0:=HK.out.2.c0
 have q1:=HK.out.2.c1
 have q2:=HK.out.2.c2
 have q3:=HK.out.2.c3
 have d3:=HB.out.1.c3
 go_wp2_with fail
 refine (validM_any ⟨#[100]⟩ 100 _ _ 2 2 1 1 [((1:Int),(-6:Int)),(1,-1)] [((7:Int),(-1:Int))] _ (by decide) HN.out.1 HN.out.2 (by decide) (by decide)).mono ?_
 rintro e w8 ⟨hk8,rfl⟩
 rw [show okM (⟨#[100]⟩:ByteArray).data.toList 100 [((1:Int),(-6:Int)),(1,-1)] [((7:Int),(-1:Int))] = true by kernel_rfl]
 clear hcell d3 q0 q1 q2 q3
 have HK:=hid' (And.intro (HK.out.1.trans hk8) (HK.out.2.kept hk8))
 have HN:=hid' (And.intro (HN.out.1.kept hk8) (HN.out.2.kept hk8))
 have HGC:=hid' (And.intro (HGC.out.1.kept hk8) (And.intro (HGC.out.2.1.kept hk8) HGC.out.2.2))
 have HB:=hid' (And.intro (HB.out.1.kept hk8) (HB.out.2.kept hk8))
 clear hk8
 have q0:=HK.out.2.c0
 have q1:=HK.out.2.c1
 have q2:=HK.out.2.c2
 have q3:=HK.out.2.c3
 go_wp2_with fail
 refine (countM_any ⟨#[100]⟩ 100 _ _ 2 2 1 1 [((1:Int),(-6:Int)),(1,-1)] [((7:Int),(-1:Int))] _ (by decide) HN.out.1 HN.out.2 (by decide) (by decide)).mono ?_
 rintro e w9 ⟨hk9,rfl⟩
 rw [show okM (⟨#[100]⟩:ByteArray).data.toList 100 [((1:Int),(-6:Int)),(1,-1)] [((7:Int),(-1:Int))] = true by kernel_rfl]
 clear q0 q1 q2 q3
 have HK:=hid' (And.intro (HK.out.1.trans hk9) (HK.out.2.kept hk9))
 have HN:=hid' (And.intro (HN.out.1.kept hk9) (HN.out.2.kept hk9))
 have HGC:=hid' (And.intro (HGC.out.1.kept hk9) (And.intro (HGC.out.2.1.kept hk9) HGC.out.2.2))
 have HB:=hid' (And.intro (HB.out.1.kept hk9) (HB.out.2.kept hk9))
 clear hk9
 go_wp2_with fail
 refine (countM_any ⟨#[]⟩ 0 none none 0 0 0 0 [] [] _ (by decide) ⟨none,0,rfl,fun h => absurd h (by decide)⟩ ⟨none,0,rfl,fun h => absurd h (by decide)⟩ (by decide) (by decide)).mono ?_
 rintro e wa ⟨hka,rfl⟩
 rw [show okM (⟨#[]⟩:ByteArray).data.toList 0 [] [] = false by kernel_rfl]
 have HK:=hid' (And.intro (HK.out.1.trans hka) (HK.out.2.kept hka))
 have HN:=hid' (And.intro (HN.out.1.kept hka) (HN.out.2.kept hka))
 have HGC:=hid' (And.intro (HGC.out.1.kept hka) (And.intro (HGC.out.2.1.kept hka) HGC.out.2.2))
 have HB:=hid' (And.intro (HB.out.1.kept hka) (HB.out.2.kept hka))
 clear hka
 go_wp2_with fail
 go_ret
 exact ⟨HK.out.1,rfl⟩
end V
end Go.Proofs.YthfbfbfambbkaaaGreatDoor

namespace Go.Proofs.YthfbfbfambbkaaaGreatDoor
open Go.RowKit
namespace V
open Q (hid' Row3 Row2 okN okN_bd Scl RQ)
theorem own100 {w:World} {v:Value} {gs vs:List (Int × Int)} {i S:Nat} (h:RS w v (ownK 100 gs vs i) S):RS w v (ownS gs vs i) S:=by
 unfold ownK at h
 rw [if_neg (by decide)] at h
 exact h
theorem bd_gs {gs:List (Int × Int)} {i:Nat} (h:∀ q ∈ gs,okN q.1 q.2 = true) (hi:i < gs.length):(U (gs.getD i (0,0)).1 (gs.getD i (0,0)).2).natAbs≤10 ^ 36:=u_abs (at_ok h hi)
theorem bd_own {k:Int} {gs vs:List (Int × Int)} {i:Nat} (h:(∀ q ∈ gs,okN q.1 q.2 = true)∧(∀ q ∈ vs,okN q.1 q.2 = true)∧riseN vs = true∧fitsM k gs.length vs.length = true) (hi:i < gs.length):(ownS gs vs i).natAbs≤4 * 10 ^ 100:=by
 have hf:=fits_len' h.2.2.2
 have:=ownS_le (gs:=gs) (vs:=vs) (n:=gs.length) (m:=vs.length) (fun i hi => at_ok h.1 hi) (fun i hi => at_ok h.2.1 hi) i hi (by omega)
 exact Nat.le_trans this (Nat.mul_le_mul_right _ (by omega))
theorem line_bd {G C X:Int} {T:Nat} (hG:G.natAbs≤10 ^ 36) (hC:C.natAbs≤4 * 10 ^ 100) (hX:X.natAbs < 4294967296 ^ 40) (hT:T < 4294967296 ^ 40):(G * X).natAbs < M.W72∧10 ^ 18 * T < M.W72∧(G * X * 10 ^ 36 + C * T).natAbs < M.W72∧10 ^ 54 * T < M.W72:=by
 have hX':=Nat.le_of_lt hX
 have hT':=Nat.le_of_lt hT
 have e1:(G * X).natAbs≤10 ^ 36 * 4294967296 ^ 40:=by rw [Int.natAbs_mul]; exact Nat.mul_le_mul hG hX'
 have w1:10 ^ 36 * 4294967296 ^ 40 < M.W72:=by unfold M.W72; decide
 have w2:10 ^ 18 * 4294967296 ^ 40 < M.W72:=by unfold M.W72; decide
 have w3:10 ^ 54 * 4294967296 ^ 40 < M.W72:=by unfold M.W72; decide
 have w4:10 ^ 36 * 4294967296 ^ 40 * 10 ^ 36 + 4 * 10 ^ 100 * 4294967296 ^ 40 < M.W72:=by unfold M.W72; decide
 refine ⟨Nat.lt_of_le_of_lt e1 w1,Nat.lt_of_le_of_lt (Nat.mul_le_mul_left _ hT') w2,?_,Nat.lt_of_le_of_lt (Nat.mul_le_mul_left _ hT') w3⟩
 refine Nat.lt_of_le_of_lt (Nat.le_trans (Int.natAbs_add_le _ _) (Nat.add_le_add ?_ ?_)) w4
 ·
  rw [Int.natAbs_mul]; exact Nat.mul_le_mul e1 (Nat.le_refl _)
 ·
  rw [Int.natAbs_mul,Int.natAbs_natCast]; exact Nat.mul_le_mul hC hT'
end V
end Go.Proofs.YthfbfbfambbkaaaGreatDoor

namespace Go.Proofs.YthfbfbfambbkaaaGreatDoor
open Go.RowKit
namespace V
open Q (hid' Row3 Row2 okN okN_bd Scl RQ)
theorem rs_open {w:World} {s:Bool} {ao ap:Option Addr} {k c k' c':Nat} {A:Int} {S:Nat} (h:RS w (.agg #[.bool s,.slice ao k c,.bool false,.slice ap k' c']) A S):∃ l l',Sl w (.slice ao k c) l∧Sl w (.slice ap k' c') l'∧F.RatR s false l l'∧M.int s l * (S:Int) = A * (M.val l':Int):=by
 obtain ⟨s',ao',ap',k1,c1,k1',c1',l,l',hv,h1,h2,h3,h4⟩:=h
 simp at hv
 obtain ⟨rfl,⟨rfl,rfl,rfl⟩,rfl,rfl,rfl⟩:=hv
 exact ⟨l,l',h1,h2,h3,h4⟩
theorem low_one {N N' A:Int} {D D' S:Nat} (hS:0 < S) (hD:0 < D) (c1:Nat.Coprime N.natAbs D) (c2:Nat.Coprime N'.natAbs D') (e:N * (S:Int) = A * D) (e':N' * (S:Int) = A * D'):N = N'∧D = D':=by
 have key:N * (D':Int) = N' * D:=by
  apply Int.eq_of_mul_eq_mul_right (show (S:Int) ≠ 0 by omega)
  calc N * D' * S = N * S * D':=Int.mul_right_comm _ _ _
   _ = A * D * D':=by rw [e]
   _ = A * D' * D:=Int.mul_right_comm _ _ _
   _ = N' * S * D:=by rw [e']
   _ = N' * D * S:=Int.mul_right_comm _ _ _
 have kn:=congrArg Int.natAbs key
 rw [Int.natAbs_mul,Int.natAbs_mul,Int.natAbs_natCast,Int.natAbs_natCast] at kn
 have d1:D ∣ D':=(Nat.Coprime.symm c1).dvd_of_dvd_mul_left (by rw [kn]; exact Nat.dvd_mul_left _ _)
 have d2:D' ∣ D:=(Nat.Coprime.symm c2).dvd_of_dvd_mul_left (by rw [← kn]; exact Nat.dvd_mul_left _ _)
 have eD:D = D':=Nat.dvd_antisymm d1 d2
 subst eD
 exact ⟨Int.eq_of_mul_eq_mul_right (show (D:Int) ≠ 0 by omega) key,rfl⟩
theorem same_rs {v v':Value} {A:Int} {S:Nat} (w:World) (h:RS w v A S) (h':RS w v' A S) (hS:0 < S):Calls Tryz.prog 16 #[v,v'] w fun e w' => Kept w w'∧e = .returned (.bool true):=by
 obtain ⟨s,ao,ap,k,c,k',c',l,l',rfl,n1,n2,r,e1⟩:=h
 obtain ⟨s',ao',ap',k1,c1,k1',c1',l1,l1',rfl,n1',n2',r',e2⟩:=h'
 obtain ⟨x1,x2⟩:=low_one hS r.vpos (by rw [M.natAbs_int]; exact r.low) (by rw [M.natAbs_int]; exact r'.low) e1 e2
 obtain ⟨rfl,rfl⟩:=M.int_inj (r.ra.right n1.1) (r'.ra.right n1'.1) x1
 obtain ⟨_,rfl⟩:=M.int_inj (r.rd.right n2.1) (r'.rd.right n2'.1) (by simp [M.int,x2])
 refine (F.same_r s false _ _ _ _ l l' w n1 n2 n1' n2' (by have:=r.ra.1; omega) (by have:=r.rd.1; omega)).mono ?_
 rintro e w' ⟨rfl,hk⟩
 exact ⟨hk,rfl⟩
theorem unbr_eq (gs vs:List (Int × Int)) (i:Nat) (V:Int) (hV:kn vs i = V * 10 ^ 27):gn gs (i + 1) * (V * 1000000000) * 10 ^ 36 + ownS gs vs (i + 1) * ((10 ^ 18 * 1:Nat):Int) = gn gs i * (V * 1000000000) * 10 ^ 36 + ownS gs vs i * ((10 ^ 18 * 1:Nat):Int):=by
 have key:=ownS_knot gs vs i
 rw [hV] at key
 have e:∀ g o:Int,g * (V * 1000000000) * 10 ^ 36 + o * ((10 ^ 18 * 1:Nat):Int) = (g * (V * 10 ^ 27) + o) * 10 ^ 18:=fun g o => by
  have e1:g * (V * 1000000000) * 10 ^ 36 = g * (V * 10 ^ 27) * 10 ^ 18:=by
   rw [Int.mul_assoc,Int.mul_assoc,Int.mul_assoc,Int.mul_assoc]
   rfl
  rw [e1,Int.add_mul]
  rfl
 rw [e,e,key]
theorem unbr_at {N V:Int} {D:Nat} (h:N * ((10 ^ 18 * 1:Nat):Int) = V * 1000000000 * (D:Int)):N * 10 ^ 36 = V * 10 ^ 27 * (D:Int):=by
 have h1:N * ((10 ^ 18 * 1:Nat):Int) * 10 ^ 18 = V * 1000000000 * (D:Int) * 10 ^ 18:=by rw [h]
 have e1:N * ((10 ^ 18 * 1:Nat):Int) * 10 ^ 18 = N * 10 ^ 36:=by rw [Int.mul_assoc]; rfl
 have e2:V * 1000000000 * (D:Int) * 10 ^ 18 = V * 10 ^ 27 * (D:Int):=by rw [Int.mul_right_comm,Int.mul_assoc V]; rfl
 rw [← e1,h1,e2]
set_option maxRecDepth 100000 in
set_option maxHeartbeats 8000000 in
theorem unbrM_any (s:ByteArray) (k:Int) (a1 a2:Option Addr) (n c m c':Nat) (gs vs:List (Int × Int)) (i':Int) (w:World) (ht:Tab w) (hs:s.size≤9223372036854775807) (h1:NSl w (.slice a1 n c) gs) (h2:NSl w (.slice a2 m c') vs) (hn:n≤4611686018427387903) (hm:m≤4611686018427387903) :
  Calls Tryz.prog 5 #[.agg #[.string s,.int .u8 k,.slice a1 n c,.slice a2 m c'],.int .i64 i'] w fun e w' => Kept w w'∧e = .returned (.bool true):=by
 have HS:=hid' (And.intro h1 (And.intro h2 ht))
 have HL0:=hid' (show m = vs.length∧n = gs.length from ⟨h2.len,h1.len⟩)
 clear h1 h2 ht
 obtain ⟨rf,hrf⟩:∃ rf,rf = refM s.data.toList k gs vs i':=⟨_,rfl⟩
 have HRE:=hid' hrf
 clear hrf
 have HFF:=hid' (rfaultM_any s k a1 a2 n c m c' gs vs i')
 go_enter Tryz.func5,Tryz.ntmps5
 go_upto_region 1 with fail
 have hM:=Row4.alloc 24 w (.string s) (.int .u8 k) (.slice a1 n c) (.slice a2 m c')
 have hK:=((Kept.refl w).alloc (.cells #[.string s,.int .u8 k,.slice a1 n c,.slice a2 m c'] 24))
 generalize w.alloc (.cells #[.string s,.int .u8 k,.slice a1 n c,.slice a2 m c'] 24) = W at hM hK ⊢
 obtain ⟨p,hqp⟩:∃ q,q = w.heap.size:=⟨_,rfl⟩
 rw [← hqp] at hM ⊢
 clear hqp
 have HK:=hid' (And.intro hK hM)
 clear hK hM
 go_wp2_with fail
 refine (awakeM_any _ (HS.out.2.2.kept HK.out.1)).mono ?_
 rintro e w1 ⟨hk1,rfl⟩
 have HK:=hid' (And.intro (HK.out.1.trans hk1) (HK.out.2.kept hk1))
 clear hk1
 have q0:=HK.out.2.c0
 have q1:=HK.out.2.c1
 have q2:=HK.out.2.c2
 have q3:=HK.out.2.c3
 go_wp2_with fail
 refine (HFF.out _ hs (HS.out.1.kept HK.out.1) (HS.out.2.1.kept HK.out.1) hn hm).mono ?_
 rintro e w2 ⟨hk2,rfl⟩
 have HK:=hid' (And.intro (HK.out.1.trans hk2) (HK.out.2.kept hk2))
 clear hk2 q0 q1 q2 q3 HFF
 rw [← HRE.out]
 have q1:=HK.out.2.c1
 by_cases hr0:rf = 0
 ·
  have HRF:=hid' (refM_zero (s:=s.data.toList) (k:=k) (gs:=gs) (vs:=vs) (i:=i') (by rw [← HRE.out]; exact hr0))
  clear HRE
  subst hr0
  by_cases hkd:¬ k = 100
  ·
   have hkb:(k != 100) = true:=by simpa using hkd
   go_wp2_with fail
   go_ret
   exact ⟨HK.out.1,rfl⟩
  ·
   have hkd:k = 100:=Classical.not_not.1 hkd
   subst hkd
   by_cases hi0:i' = 0
   ·
    subst hi0
    go_wp2_with fail
    go_ret
    exact ⟨HK.out.1,rfl⟩
   ·
    have HOA:=hid' (okM_all HRF.out.1)
    have HL:=hid' (show m = vs.length∧n = gs.length∧n = m + 1∧n≤4 by
     have e0:=HL0.out
     have e3:=fits_len HOA.out.2.2.2
     exact ⟨e0.1,e0.2,by omega,by omega⟩)
    obtain ⟨i,hi⟩:∃ i:Nat,i' = (i:Int) + 1:=⟨(i' - 1).toNat,by have:=HRF.out.2; omega⟩
    subst hi
    have him:i < m:=by have:=HRF.out.2; have:=HL.out; omega
    have hi1:((i:Int) + 1 == 0) = false:=by simp; omega
    have hi2:(i:Int) + 1 - 1 = (i:Int):=by omega
    have hi3:IntKind.i64.wrap (i:Int) = (i:Int):=by rw [IntKind.wrap_i64]; omega
    have hi5:(i:Int) < (m:Int):=by omega
    obtain ⟨b,off,rfl,hbb,hc⟩:=(HS.out.2.1.kept HK.out.1).at (j:=i) him
    obtain ⟨d0,d1⟩:=hc i him
    have okv:okN (vs.getD i (0,0)).1 (vs.getD i (0,0)).2 = true:=at_ok HOA.out.2.1 (by have:=HL.out; omega)
    obtain ⟨x,hX⟩:∃ x,x = vs.getD i (0,0):=⟨_,rfl⟩
    rw [← hX] at d0 d1 okv
    have HX:=hid' hX
    obtain ⟨x0,x1⟩:=x
    dsimp only at d0 d1 okv
    have HOV:=hid' okv
    clear hc hX hbb okv hi0
    have q3:=HK.out.2.c3
    go_wp2_with fail
    refine (rt_value x0 x1 HOV.out _).mono ?_
    rintro e w3 ⟨hk3,uf,rfl,tf⟩
    obtain ⟨f0,f1,f2,f3,f4,f5,f6,rfl⟩:=tf.shape
    have HK:=hid' (And.intro (HK.out.1.trans hk3) (HK.out.2.kept hk3))
    clear hk3 q1 q3 d0 d1
    go_upto_region 6 with fail
    have hF1:=F.RRow.alloc w3 (.bool f0) (.slice f1 f3 f4) (.bool false) (.slice f2 f5 f6)
    have kA:=((Kept.refl w3).alloc (.cells #[.bool f0,.slice f1 f3 f4,.bool false,.slice f2 f5 f6] 29))
    generalize w3.alloc (.cells #[.bool f0,.slice f1 f3 f4,.bool false,.slice f2 f5 f6] 29) = W3 at hF1 kA ⊢
    obtain ⟨p5,hqp5⟩:∃ q,q = w3.heap.size:=⟨_,rfl⟩
    rw [← hqp5] at hF1 ⊢
    clear hqp5
    have HT5:=hid' (RT.mono (tf.kept kA) (Nat.zero_le _))
    have HK:=hid' (And.intro (HK.out.1.trans kA) (HK.out.2.kept kA))
    have HV:Hid (∀ V,Kept W3 V→V.cell? ⟨p5,0,none⟩ = some (.bool f0)∧V.cell? ⟨p5,1,none⟩ = some (.slice f1 f3 f4)∧V.cell? ⟨p5,2,none⟩ = some (.bool false)∧V.cell? ⟨p5,3,none⟩ = some (.slice f2 f5 f6)):=fun V hV =>
     have r0:=(hF1).kept hV
     ⟨r0.c0,r0.c1,r0.c2,r0.c3⟩
    have HB6:Hid ((U x0 x1 * 1000000000).natAbs≤10 ^ 200):=by
     show _≤_
     rw [Int.natAbs_mul]
     exact Nat.le_trans (Nat.mul_le_mul (u_abs HOV.out) (Nat.le_refl _)) (by decide)
    clear kA hF1 tf
    go_cut [7,8] (fun s7 s8 wc => ∃ (p7:Nat) (t0:Bool) (t1 t2:Option Addr) (t3 t4 t5 t6:Nat),s7 = .pointer (some ⟨p7,0,none⟩)∧s8 = .int .i64 0∧Hid (Kept W3 wc∧F.RRow wc p7 (.bool t0) (.slice t1 t3 t4) (.bool false) (.slice t2 t5 t6)∧RT 0 wc (.agg #[.bool t0,.slice t1 t3 t4,.bool false,.slice t2 t5 t6]) (U x0 x1 * 1000000000) (10 ^ 18 * 1)))
    case first =>
     have KT:Kept W3 W3.drew:=(Kept.refl _).drew
     have sS:=hid' (fun (V:World) (K:Kept W3 V) => And.intro ((HV.out _ K).1) (And.intro ((HV.out _ K).2.1) (And.intro ((HV.out _ K).2.2.1) ((HV.out _ K).2.2.2))))
     refine wp_region_held_drew (S:=fun w' => w'.cell? ⟨p5,0,none⟩ = some (.bool f0)∧w'.cell? ⟨p5,1,none⟩ = some (.slice f1 f3 f4)∧w'.cell? ⟨p5,2,none⟩ = some (.bool false)∧w'.cell? ⟨p5,3,none⟩ = some (.slice f2 f5 f6)) (by kernel_rfl) (sS.out _ KT) (fun hHeld => ?_)
     generalize W3.drew = Wd at KT hHeld ⊢
     refine take1 (i:=0) (v:=?vax0x1) rfl rfl (by kernel_rfl) (by kernel_rfl) (by kernel_rfl) (fun _ _ _ h => h) (Or.inl ⟨by kernel_rfl,?yax0x1⟩) hHeld ?rax0x1
     case yax0x1 =>
      intro w' hSw
      obtain ⟨hSw0,hSw1,hSw2,hSw3⟩:=hSw
      go_simp
      with_reducible rfl
     case rax0x1 =>
     simp only [List.set_cons_zero,List.set_cons_succ]
     refine wpAnyH_ready (rs:=[1,6]) (by kernel_rfl) (by simp) ?_
     refine AllReadyH.cons rfl (fun K hK => ?_) ?_
     ·
      go_simp
      refine (whole_any 1000000000 _ (by omega) (by omega)).mono ?_
      rintro e w4 ⟨hk4,vw,rfl,tw⟩
      obtain ⟨o0,o1,o2,o3,o4,o5,o6,rfl⟩:=tw.shape
      refine hK.out _ _ (sS.out _ (KT.trans hk4)) (fun hHeld => ?_)
      clear hK K
      have KT:=KT.trans hk4
      refine wpAnyH_ready (rs:=[2,6]) (by kernel_rfl) (by simp) ?_
      refine AllReadyH.cons rfl (fun K hK => ?_) ?_
      ·
       go_simp
       refine (rt_mul _ (HT5.out.kept KT) tw (by decide) (by decide) HB6.out (by decide)).mono ?_
       rintro e w5 ⟨hk5,vt,rfl,tt⟩
       obtain ⟨t0,t1,t2,t3,t4,t5,t6,rfl⟩:=tt.shape
       refine hK.out _ _ (sS.out _ (KT.trans hk5)) (fun hHeld => ?_)
       clear hK K
       have tw:=RT.kept tw hk5
       have KT:=KT.trans hk5
       refine take1 (i:=3) (v:=?vax3x2) rfl rfl (by kernel_rfl) (by kernel_rfl) (by kernel_rfl) (fun _ _ _ h => h) (Or.inl ⟨by kernel_rfl,?yax3x2⟩) hHeld ?rax3x2
       case yax3x2 =>
        intro w' hSw
        obtain ⟨hSw0,hSw1,hSw2,hSw3⟩:=hSw
        go_simp
        with_reducible rfl
       case rax3x2 =>
       simp only [List.set_cons_zero,List.set_cons_succ]
       refine take1 (i:=4) (v:=?vax4x3) rfl rfl (by kernel_rfl) (by kernel_rfl) (by kernel_rfl) (fun _ _ _ h => h) (Or.inl ⟨by kernel_rfl,?yax4x3⟩) hHeld ?rax4x3
       case yax4x3 =>
        intro w' hSw
        obtain ⟨hSw0,hSw1,hSw2,hSw3⟩:=hSw
        go_simp
        with_reducible rfl
       case rax4x3 =>
       simp only [List.set_cons_zero,List.set_cons_succ]
       refine take1 (i:=5) (v:=?vax5x4) rfl rfl (by kernel_rfl) (by kernel_rfl) (by kernel_rfl) (fun _ _ _ h => h) (Or.inl ⟨by kernel_rfl,?yax5x4⟩) hHeld ?rax5x4
       case yax5x4 =>
        intro w' hSw
        obtain ⟨hSw0,hSw1,hSw2,hSw3⟩:=hSw
        go_simp
        with_reducible rfl
       case rax5x4 =>
       simp only [List.set_cons_zero,List.set_cons_succ]
       refine wpAnyH_ready (rs:=[6]) (by kernel_rfl) (by simp) ?_
       refine AllReadyH.cons rfl (fun K hK => ?_) AllReadyH.nil
       go_simp
       refine hK.out _ _ (sS.out _ (KT.alloc _)) (fun hHeld => ?_)
       clear hK K
       have zp7:=F.RRow.alloc w5 (.bool false) (.slice none 0 0) (.bool false) (.slice none 0 0)
       have hgp7:W3.heap.size≤w5.heap.size:=KT.size
       have tw:=RT.kept tw ((Kept.refl w5).alloc (.cells #[.bool false,.slice none 0 0,.bool false,.slice none 0 0] 29))
       have tt:=RT.kept tt ((Kept.refl w5).alloc (.cells #[.bool false,.slice none 0 0,.bool false,.slice none 0 0] 29))
       have KT:=KT.alloc (.cells #[.bool false,.slice none 0 0,.bool false,.slice none 0 0] 29)
       obtain ⟨p7,hpp7⟩:∃ p,p = w5.heap.size:=⟨_,rfl⟩
       rw [← hpp7] at zp7 hgp7  ⊢
       generalize w5.alloc (.cells #[.bool false,.slice none 0 0,.bool false,.slice none 0 0] 29) = Wa6 at zp7  tw tt KT hHeld ⊢
       clear hpp7
       have cp70:=zp7.c0
       have cp71:=zp7.c1
       have cp72:=zp7.c2
       have cp73:=zp7.c3
       have gp70:=zp7.fz 0
       have gp71:=zp7.fz 1
       have gp72:=zp7.fz 2
       have gp73:=zp7.fz 3
       refine wpAnyH_ready (rs:=[7]) (by kernel_rfl) (by simp) ?_
       refine AllReadyH.cons rfl (fun K hK => ?_) AllReadyH.nil
       go_simp
       refine hK.out _ _ (sS.out _ (Q.Kept.put4 KT hgp7 _ _ _ _)) (fun hHeld => ?_)
       clear hK K
       have ep7:=rrow_put4 zp7 (.bool t0) (.slice t1 t3 t4) (.bool false) (.slice t2 t5 t6)
       have tw:=RT.put4 tw zp7 (.bool t0) (.slice t1 t3 t4) (.bool false) (.slice t2 t5 t6)
       have tt:=RT.put4 tt zp7 (.bool t0) (.slice t1 t3 t4) (.bool false) (.slice t2 t5 t6)
       have KT:=Q.Kept.put4 KT hgp7 (.bool t0) (.slice t1 t3 t4) (.bool false) (.slice t2 t5 t6)
       clear cp70 cp71 cp72 cp73 gp70 gp71 gp72 gp73 zp7
       unfold Q.put4 at ep7 tw tt KT
       generalize (((Wa6.setCell ⟨p7,0,none⟩ (.bool t0)).setCell ⟨p7,1,none⟩ (.slice t1 t3 t4)).setCell ⟨p7,2,none⟩ (.bool false)).setCell ⟨p7,3,none⟩ (.slice t2 t5 t6) = Ws7 at ep7 tw tt KT hHeld ⊢
       refine take1 (i:=8) (v:=?vax8x5) rfl rfl (by kernel_rfl) (by kernel_rfl) (by kernel_rfl) (fun _ _ _ h => h) (Or.inl ⟨by kernel_rfl,?yax8x5⟩) hHeld ?rax8x5
       case yax8x5 =>
        intro w' hSw
        obtain ⟨hSw0,hSw1,hSw2,hSw3⟩:=hSw
        go_simp
        with_reducible rfl
       case rax8x5 =>
       simp only [List.set_cons_zero,List.set_cons_succ]
       refine wpAnyH_done (by kernel_rfl) ?_ _
       go_wp2_with fail
       go_meet
       case rel => exact ⟨p7,t0,t1,t2,t3,t4,t5,t6,rfl,rfl,KT,ep7,RT.mono tt (Nat.zero_le _)⟩
      refine AllReadyH.cons rfl (fun K hK => ?_) AllReadyH.nil
      go_simp
      refine hK.out _ _ (sS.out _ (KT.alloc _)) (fun hHeld => ?_)
      clear hK K
      have zp7:=F.RRow.alloc w4 (.bool false) (.slice none 0 0) (.bool false) (.slice none 0 0)
      have hgp7:W3.heap.size≤w4.heap.size:=KT.size
      have tw:=RT.kept tw ((Kept.refl w4).alloc (.cells #[.bool false,.slice none 0 0,.bool false,.slice none 0 0] 29))
      have KT:=KT.alloc (.cells #[.bool false,.slice none 0 0,.bool false,.slice none 0 0] 29)
      obtain ⟨p7,hpp7⟩:∃ p,p = w4.heap.size:=⟨_,rfl⟩
      rw [← hpp7] at zp7 hgp7  ⊢
      generalize w4.alloc (.cells #[.bool false,.slice none 0 0,.bool false,.slice none 0 0] 29) = Wa6 at zp7  tw KT hHeld ⊢
      clear hpp7
      refine wpAnyH_ready (rs:=[2]) (by kernel_rfl) (by simp) ?_
      refine AllReadyH.cons rfl (fun K hK => ?_) AllReadyH.nil
      go_simp
      refine (rt_mul _ (HT5.out.kept KT) tw (by decide) (by decide) HB6.out (by decide)).mono ?_
      rintro e w5 ⟨hk5,vt,rfl,tt⟩
      obtain ⟨t0,t1,t2,t3,t4,t5,t6,rfl⟩:=tt.shape
      refine hK.out _ _ (sS.out _ (KT.trans hk5)) (fun hHeld => ?_)
      clear hK K
      have zp7:=zp7.kept hk5
      have tw:=RT.kept tw hk5
      have KT:=KT.trans hk5
      refine take1 (i:=3) (v:=?vax3x6) rfl rfl (by kernel_rfl) (by kernel_rfl) (by kernel_rfl) (fun _ _ _ h => h) (Or.inl ⟨by kernel_rfl,?yax3x6⟩) hHeld ?rax3x6
      case yax3x6 =>
       intro w' hSw
       obtain ⟨hSw0,hSw1,hSw2,hSw3⟩:=hSw
       go_simp
       with_reducible rfl
      case rax3x6 =>
      simp only [List.set_cons_zero,List.set_cons_succ]
      refine take1 (i:=4) (v:=?vax4x7) rfl rfl (by kernel_rfl) (by kernel_rfl) (by kernel_rfl) (fun _ _ _ h => h) (Or.inl ⟨by kernel_rfl,?yax4x7⟩) hHeld ?rax4x7
      case yax4x7 =>
       intro w' hSw
       obtain ⟨hSw0,hSw1,hSw2,hSw3⟩:=hSw
       go_simp
       with_reducible rfl
      case rax4x7 =>
      simp only [List.set_cons_zero,List.set_cons_succ]
      refine take1 (i:=5) (v:=?vax5x8) rfl rfl (by kernel_rfl) (by kernel_rfl) (by kernel_rfl) (fun _ _ _ h => h) (Or.inl ⟨by kernel_rfl,?yax5x8⟩) hHeld ?rax5x8
      case yax5x8 =>
       intro w' hSw
       obtain ⟨hSw0,hSw1,hSw2,hSw3⟩:=hSw
       go_simp
       with_reducible rfl
      case rax5x8 =>
      simp only [List.set_cons_zero,List.set_cons_succ]
      have cp70:=zp7.c0
      have cp71:=zp7.c1
      have cp72:=zp7.c2
      have cp73:=zp7.c3
      have gp70:=zp7.fz 0
      have gp71:=zp7.fz 1
      have gp72:=zp7.fz 2
      have gp73:=zp7.fz 3
      refine wpAnyH_ready (rs:=[7]) (by kernel_rfl) (by simp) ?_
      refine AllReadyH.cons rfl (fun K hK => ?_) AllReadyH.nil
      go_simp
      refine hK.out _ _ (sS.out _ (Q.Kept.put4 KT hgp7 _ _ _ _)) (fun hHeld => ?_)
      clear hK K
      have ep7:=rrow_put4 zp7 (.bool t0) (.slice t1 t3 t4) (.bool false) (.slice t2 t5 t6)
      have tw:=RT.put4 tw zp7 (.bool t0) (.slice t1 t3 t4) (.bool false) (.slice t2 t5 t6)
      have tt:=RT.put4 tt zp7 (.bool t0) (.slice t1 t3 t4) (.bool false) (.slice t2 t5 t6)
      have KT:=Q.Kept.put4 KT hgp7 (.bool t0) (.slice t1 t3 t4) (.bool false) (.slice t2 t5 t6)
      clear cp70 cp71 cp72 cp73 gp70 gp71 gp72 gp73 zp7
      unfold Q.put4 at ep7 tw tt KT
      generalize (((w5.setCell ⟨p7,0,none⟩ (.bool t0)).setCell ⟨p7,1,none⟩ (.slice t1 t3 t4)).setCell ⟨p7,2,none⟩ (.bool false)).setCell ⟨p7,3,none⟩ (.slice t2 t5 t6) = Ws7 at ep7 tw tt KT hHeld ⊢
      refine take1 (i:=8) (v:=?vax8x9) rfl rfl (by kernel_rfl) (by kernel_rfl) (by kernel_rfl) (fun _ _ _ h => h) (Or.inl ⟨by kernel_rfl,?yax8x9⟩) hHeld ?rax8x9
      case yax8x9 =>
       intro w' hSw
       obtain ⟨hSw0,hSw1,hSw2,hSw3⟩:=hSw
       go_simp
       with_reducible rfl
      case rax8x9 =>
      simp only [List.set_cons_zero,List.set_cons_succ]
      refine wpAnyH_done (by kernel_rfl) ?_ _
      go_wp2_with fail
      go_meet
      case rel => exact ⟨p7,t0,t1,t2,t3,t4,t5,t6,rfl,rfl,KT,ep7,RT.mono tt (Nat.zero_le _)⟩
     refine AllReadyH.cons rfl (fun K hK => ?_) AllReadyH.nil
     go_simp
     refine hK.out _ _ (sS.out _ (KT.alloc _)) (fun hHeld => ?_)
     clear hK K
     have zp7:=F.RRow.alloc Wd (.bool false) (.slice none 0 0) (.bool false) (.slice none 0 0)
     have hgp7:W3.heap.size≤Wd.heap.size:=KT.size
     have KT:=KT.alloc (.cells #[.bool false,.slice none 0 0,.bool false,.slice none 0 0] 29)
     obtain ⟨p7,hpp7⟩:∃ p,p = Wd.heap.size:=⟨_,rfl⟩
     rw [← hpp7] at zp7 hgp7  ⊢
     generalize Wd.alloc (.cells #[.bool false,.slice none 0 0,.bool false,.slice none 0 0] 29) = Wa6 at zp7   KT hHeld ⊢
     clear hpp7
     refine wpAnyH_ready (rs:=[1]) (by kernel_rfl) (by simp) ?_
     refine AllReadyH.cons rfl (fun K hK => ?_) AllReadyH.nil
     go_simp
     refine (whole_any 1000000000 _ (by omega) (by omega)).mono ?_
     rintro e w4 ⟨hk4,vw,rfl,tw⟩
     obtain ⟨o0,o1,o2,o3,o4,o5,o6,rfl⟩:=tw.shape
     refine hK.out _ _ (sS.out _ (KT.trans hk4)) (fun hHeld => ?_)
     clear hK K
     have zp7:=zp7.kept hk4
     have KT:=KT.trans hk4
     refine wpAnyH_ready (rs:=[2]) (by kernel_rfl) (by simp) ?_
     refine AllReadyH.cons rfl (fun K hK => ?_) AllReadyH.nil
     go_simp
     refine (rt_mul _ (HT5.out.kept KT) tw (by decide) (by decide) HB6.out (by decide)).mono ?_
     rintro e w5 ⟨hk5,vt,rfl,tt⟩
     obtain ⟨t0,t1,t2,t3,t4,t5,t6,rfl⟩:=tt.shape
     refine hK.out _ _ (sS.out _ (KT.trans hk5)) (fun hHeld => ?_)
     clear hK K
     have zp7:=zp7.kept hk5
     have tw:=RT.kept tw hk5
     have KT:=KT.trans hk5
     refine take1 (i:=3) (v:=?vax3x10) rfl rfl (by kernel_rfl) (by kernel_rfl) (by kernel_rfl) (fun _ _ _ h => h) (Or.inl ⟨by kernel_rfl,?yax3x10⟩) hHeld ?rax3x10
     case yax3x10 =>
      intro w' hSw
      obtain ⟨hSw0,hSw1,hSw2,hSw3⟩:=hSw
      go_simp
      with_reducible rfl
     case rax3x10 =>
     simp only [List.set_cons_zero,List.set_cons_succ]
     refine take1 (i:=4) (v:=?vax4x11) rfl rfl (by kernel_rfl) (by kernel_rfl) (by kernel_rfl) (fun _ _ _ h => h) (Or.inl ⟨by kernel_rfl,?yax4x11⟩) hHeld ?rax4x11
     case yax4x11 =>
      intro w' hSw
      obtain ⟨hSw0,hSw1,hSw2,hSw3⟩:=hSw
      go_simp
      with_reducible rfl
     case rax4x11 =>
     simp only [List.set_cons_zero,List.set_cons_succ]
     refine take1 (i:=5) (v:=?vax5x12) rfl rfl (by kernel_rfl) (by kernel_rfl) (by kernel_rfl) (fun _ _ _ h => h) (Or.inl ⟨by kernel_rfl,?yax5x12⟩) hHeld ?rax5x12
     case yax5x12 =>
      intro w' hSw
      obtain ⟨hSw0,hSw1,hSw2,hSw3⟩:=hSw
      go_simp
      with_reducible rfl
     case rax5x12 =>
     simp only [List.set_cons_zero,List.set_cons_succ]
     have cp70:=zp7.c0
     have cp71:=zp7.c1
     have cp72:=zp7.c2
     have cp73:=zp7.c3
     have gp70:=zp7.fz 0
     have gp71:=zp7.fz 1
     have gp72:=zp7.fz 2
     have gp73:=zp7.fz 3
     refine wpAnyH_ready (rs:=[7]) (by kernel_rfl) (by simp) ?_
     refine AllReadyH.cons rfl (fun K hK => ?_) AllReadyH.nil
     go_simp
     refine hK.out _ _ (sS.out _ (Q.Kept.put4 KT hgp7 _ _ _ _)) (fun hHeld => ?_)
     clear hK K
     have ep7:=rrow_put4 zp7 (.bool t0) (.slice t1 t3 t4) (.bool false) (.slice t2 t5 t6)
     have tw:=RT.put4 tw zp7 (.bool t0) (.slice t1 t3 t4) (.bool false) (.slice t2 t5 t6)
     have tt:=RT.put4 tt zp7 (.bool t0) (.slice t1 t3 t4) (.bool false) (.slice t2 t5 t6)
     have KT:=Q.Kept.put4 KT hgp7 (.bool t0) (.slice t1 t3 t4) (.bool false) (.slice t2 t5 t6)
     clear cp70 cp71 cp72 cp73 gp70 gp71 gp72 gp73 zp7
     unfold Q.put4 at ep7 tw tt KT
     generalize (((w5.setCell ⟨p7,0,none⟩ (.bool t0)).setCell ⟨p7,1,none⟩ (.slice t1 t3 t4)).setCell ⟨p7,2,none⟩ (.bool false)).setCell ⟨p7,3,none⟩ (.slice t2 t5 t6) = Ws7 at ep7 tw tt KT hHeld ⊢
     refine take1 (i:=8) (v:=?vax8x13) rfl rfl (by kernel_rfl) (by kernel_rfl) (by kernel_rfl) (fun _ _ _ h => h) (Or.inl ⟨by kernel_rfl,?yax8x13⟩) hHeld ?rax8x13
     case yax8x13 =>
      intro w' hSw
      obtain ⟨hSw0,hSw1,hSw2,hSw3⟩:=hSw
      go_simp
      with_reducible rfl
     case rax8x13 =>
     simp only [List.set_cons_zero,List.set_cons_succ]
     refine wpAnyH_done (by kernel_rfl) ?_ _
     go_wp2_with fail
     go_meet
     case rel => exact ⟨p7,t0,t1,t2,t3,t4,t5,t6,rfl,rfl,KT,ep7,RT.mono tt (Nat.zero_le _)⟩
    obtain ⟨p7,t0,t1,t2,t3,t4,t5,t6,rfl,rfl,HD⟩:=hcut
    have HAT:=hid' (And.intro HD.out.2.2 HD.out.2.1)
    have HK:=hid' (And.intro (HK.out.1.trans HD.out.1) (HK.out.2.kept HD.out.1))
    clear HD HV HT5 HB6
    have q0:=HK.out.2.c0
    have q1:=HK.out.2.c1
    have q2:=HK.out.2.c2
    have q3:=HK.out.2.c3
    go_wp2_with fail
    refine (partM_any s 100 a1 (some ⟨b,off,none⟩) n c m c' gs vs (i:Int) _ hs (HS.out.1.kept HK.out.1) (HS.out.2.1.kept HK.out.1) hn hm).mono ?_
    rintro e w6 ⟨hk6,hP⟩
    rw [refM_ok HRF.out.1 (by have:=HL.out; omega)] at hP
    rcases hP with ⟨h0,_⟩ | ⟨_,ug,uc,rfl,tg,tc⟩
    ·
     exact absurd rfl h0
    rw [Int.toNat_natCast] at tg tc
    obtain ⟨g0,g1,g2,g3,g4,g5,g6,rfl⟩:=tg.shape
    obtain ⟨h0,h1,h2,h3,h4,h5,h6,rfl⟩:=tc.shape
    have HTG:=hid' (And.intro tg.rs tc.rs)
    have HAT:=hid' (And.intro (HAT.out.1.kept hk6) (HAT.out.2.kept hk6))
    have HK:=hid' (And.intro (HK.out.1.trans hk6) (HK.out.2.kept hk6))
    clear hk6 tg tc q0 q1 q2 q3
    go_upto_region 8 with fail
    have hG1:=(F.RRow.alloc w6 (.bool g0) (.slice g1 g3 g4) (.bool false) (.slice g2 g5 g6)).kept ((Kept.refl (w6.alloc (.cells #[.bool g0,.slice g1 g3 g4,.bool false,.slice g2 g5 g6] 29))).alloc (.cells #[.bool h0,.slice h1 h3 h4,.bool false,.slice h2 h5 h6] 29))
    have hC1:=F.RRow.alloc (w6.alloc (.cells #[.bool g0,.slice g1 g3 g4,.bool false,.slice g2 g5 g6] 29)) (.bool h0) (.slice h1 h3 h4) (.bool false) (.slice h2 h5 h6)
    have kA:=(((Kept.refl w6).alloc (.cells #[.bool g0,.slice g1 g3 g4,.bool false,.slice g2 g5 g6] 29)).alloc (.cells #[.bool h0,.slice h1 h3 h4,.bool false,.slice h2 h5 h6] 29))
    simp only [World.size_alloc] at hC1
    generalize (w6.alloc (.cells #[.bool g0,.slice g1 g3 g4,.bool false,.slice g2 g5 g6] 29)).alloc (.cells #[.bool h0,.slice h1 h3 h4,.bool false,.slice h2 h5 h6] 29) = W6 at hG1 hC1 kA ⊢
    obtain ⟨pc,hqpc⟩:∃ q,q = w6.heap.size + 1:=⟨_,rfl⟩
    rw [← hqpc] at hC1 ⊢
    obtain ⟨pg,hqpg⟩:∃ q,q = w6.heap.size:=⟨_,rfl⟩
    rw [← hqpg] at hG1 ⊢
    clear hqpg hqpc
    have HTG:=hid' (And.intro (HTG.out.1.kept kA) (And.intro (HTG.out.2.kept kA) (And.intro hG1 hC1)))
    have HAT:=hid' (And.intro (HAT.out.1.kept kA) (HAT.out.2.kept kA))
    have HK:=hid' (And.intro (HK.out.1.trans kA) (HK.out.2.kept kA))
    clear kA hG1 hC1
    have q0:=HK.out.2.c0
    have q1:=HK.out.2.c1
    have q2:=HK.out.2.c2
    have q3:=HK.out.2.c3
    go_wp2_with fail
    refine (partM_any s 100 a1 (some ⟨b,off,none⟩) n c m c' gs vs ((i:Int) + 1) _ hs (HS.out.1.kept HK.out.1) (HS.out.2.1.kept HK.out.1) hn hm).mono ?_
    rintro e w7 ⟨hk7,hP⟩
    rw [show (i:Int) + 1 = ((i + 1:Nat):Int) by omega,refM_ok HRF.out.1 (by have:=HL.out; omega)] at hP
    rcases hP with ⟨h0,_⟩ | ⟨_,up,ud,rfl,tp,td⟩
    ·
     exact absurd rfl h0
    rw [Int.toNat_natCast] at tp td
    obtain ⟨p0,p1,p2,p3,p4,p5,p6,rfl⟩:=tp.shape
    obtain ⟨d0,d1,d2,d3,d4,d5,d6,rfl⟩:=td.shape
    have HTP:=hid' (And.intro tp.rs td.rs)
    have HTG:=hid' (And.intro (HTG.out.1.kept hk7) (And.intro (HTG.out.2.1.kept hk7) (And.intro (HTG.out.2.2.1.kept hk7) (HTG.out.2.2.2.kept hk7))))
    have HAT:=hid' (And.intro (HAT.out.1.kept hk7) (HAT.out.2.kept hk7))
    have HK:=hid' (And.intro (HK.out.1.trans hk7) (HK.out.2.kept hk7))
    clear hk7 tp td q0 q1 q2 q3
    go_upto_region 9 with fail
    have hP1:=(F.RRow.alloc w7 (.bool p0) (.slice p1 p3 p4) (.bool false) (.slice p2 p5 p6)).kept ((Kept.refl (w7.alloc (.cells #[.bool p0,.slice p1 p3 p4,.bool false,.slice p2 p5 p6] 29))).alloc (.cells #[.bool d0,.slice d1 d3 d4,.bool false,.slice d2 d5 d6] 29))
    have hD1:=F.RRow.alloc (w7.alloc (.cells #[.bool p0,.slice p1 p3 p4,.bool false,.slice p2 p5 p6] 29)) (.bool d0) (.slice d1 d3 d4) (.bool false) (.slice d2 d5 d6)
    have kA:=(((Kept.refl w7).alloc (.cells #[.bool p0,.slice p1 p3 p4,.bool false,.slice p2 p5 p6] 29)).alloc (.cells #[.bool d0,.slice d1 d3 d4,.bool false,.slice d2 d5 d6] 29))
    simp only [World.size_alloc] at hD1
    generalize (w7.alloc (.cells #[.bool p0,.slice p1 p3 p4,.bool false,.slice p2 p5 p6] 29)).alloc (.cells #[.bool d0,.slice d1 d3 d4,.bool false,.slice d2 d5 d6] 29) = W7 at hP1 hD1 kA ⊢
    obtain ⟨pd,hqpd⟩:∃ q,q = w7.heap.size + 1:=⟨_,rfl⟩
    rw [← hqpd] at hD1 ⊢
    obtain ⟨pp,hqpp⟩:∃ q,q = w7.heap.size:=⟨_,rfl⟩
    rw [← hqpp] at hP1 ⊢
    clear hqpp hqpd
    have HTG:=hid' (And.intro (HTG.out.1.kept kA) (And.intro (HTG.out.2.1.kept kA) (And.intro (HTG.out.2.2.1.kept kA) (HTG.out.2.2.2.kept kA))))
    have HTP:=hid' (And.intro (HTP.out.1.kept kA) (And.intro (HTP.out.2.kept kA) (And.intro hP1 hD1)))
    have HAT:=hid' (And.intro (HAT.out.1.kept kA) (HAT.out.2.kept kA))
    have HK:=hid' (And.intro (HK.out.1.trans kA) (HK.out.2.kept kA))
    clear kA hP1 hD1
    have HBX:=hid' (show (U x0 x1 * 1000000000).natAbs < 4294967296 ^ 40 by
     rw [Int.natAbs_mul]
     exact Nat.lt_of_le_of_lt (Nat.mul_le_mul (u_abs HOV.out) (Nat.le_refl _)) (by decide))
    have HB1:=hid' (line_bd (T:=10 ^ 18 * 1) (bd_gs HOA.out.1 (show i < gs.length by have:=HL.out; omega)) (bd_own HOA.out (show i < gs.length by have:=HL.out; omega)) HBX.out (by decide))
    have HB2:=hid' (line_bd (T:=10 ^ 18 * 1) (bd_gs HOA.out.1 (show i + 1 < gs.length by have:=HL.out; omega)) (bd_own HOA.out (show i + 1 < gs.length by have:=HL.out; omega)) HBX.out (by decide))
    have HV:Hid (∀ V,Kept W7 V→V.cell? ⟨pg,0,none⟩ = some (.bool g0)∧V.cell? ⟨pg,1,none⟩ = some (.slice g1 g3 g4)∧V.cell? ⟨pg,2,none⟩ = some (.bool false)∧V.cell? ⟨pg,3,none⟩ = some (.slice g2 g5 g6)∧V.cell? ⟨pc,0,none⟩ = some (.bool h0)∧V.cell? ⟨pc,1,none⟩ = some (.slice h1 h3 h4)∧V.cell? ⟨pc,2,none⟩ = some (.bool false)∧V.cell? ⟨pc,3,none⟩ = some (.slice h2 h5 h6)∧V.cell? ⟨p7,0,none⟩ = some (.bool t0)∧V.cell? ⟨p7,1,none⟩ = some (.slice t1 t3 t4)∧V.cell? ⟨p7,2,none⟩ = some (.bool false)∧V.cell? ⟨p7,3,none⟩ = some (.slice t2 t5 t6)∧V.cell? ⟨pp,0,none⟩ = some (.bool p0)∧V.cell? ⟨pp,1,none⟩ = some (.slice p1 p3 p4)∧V.cell? ⟨pp,2,none⟩ = some (.bool false)∧V.cell? ⟨pp,3,none⟩ = some (.slice p2 p5 p6)∧V.cell? ⟨pd,0,none⟩ = some (.bool d0)∧V.cell? ⟨pd,1,none⟩ = some (.slice d1 d3 d4)∧V.cell? ⟨pd,2,none⟩ = some (.bool false)∧V.cell? ⟨pd,3,none⟩ = some (.slice d2 d5 d6)):=fun V hV =>
     have r0:=(HTG.out.2.2.1).kept hV
     have r1:=(HTG.out.2.2.2).kept hV
     have r2:=(HAT.out.2).kept hV
     have r3:=(HTP.out.2.2.1).kept hV
     have r4:=(HTP.out.2.2.2).kept hV
     ⟨r0.c0,r0.c1,r0.c2,r0.c3,r1.c0,r1.c1,r1.c2,r1.c3,r2.c0,r2.c1,r2.c2,r2.c3,r3.c0,r3.c1,r3.c2,r3.c3,r4.c0,r4.c1,r4.c2,r4.c3⟩
    go_upto_region 11 with fail
    go_cut [15,16] (fun s15 s16 wc => ∃ (pa:Nat) (xa0:Bool) (xa1 xa2:Option Addr) (xa3 xa4 xa5 xa6:Nat) (pb:Nat) (ya0:Bool) (ya1 ya2:Option Addr) (ya3 ya4 ya5 ya6:Nat),s15 = .pointer (some ⟨pa,0,none⟩)∧s16 = .pointer (some ⟨pb,0,none⟩)∧Hid (Kept W7 wc∧F.RRow wc pa (.bool xa0) (.slice xa1 xa3 xa4) (.bool false) (.slice xa2 xa5 xa6)∧F.RRow wc pb (.bool ya0) (.slice ya1 ya3 ya4) (.bool false) (.slice ya2 ya5 ya6)∧RS wc (.agg #[.bool xa0,.slice xa1 xa3 xa4,.bool false,.slice xa2 xa5 xa6]) (gn gs i * (U x0 x1 * 1000000000) * 10 ^ 36 + ownS gs vs i * ((10 ^ 18 * 1:Nat):Int)) (10 ^ 54 * (10 ^ 18 * 1))∧RS wc (.agg #[.bool ya0,.slice ya1 ya3 ya4,.bool false,.slice ya2 ya5 ya6]) (gn gs (i + 1) * (U x0 x1 * 1000000000) * 10 ^ 36 + ownS gs vs (i + 1) * ((10 ^ 18 * 1:Nat):Int)) (10 ^ 54 * (10 ^ 18 * 1))))
    case first =>
     have KT:Kept W7 W7.drew:=(Kept.refl _).drew
     have sS:=hid' (fun (V:World) (K:Kept W7 V) => And.intro ((HV.out _ K).1) (And.intro ((HV.out _ K).2.1) (And.intro ((HV.out _ K).2.2.1) (And.intro ((HV.out _ K).2.2.2.1) (And.intro ((HV.out _ K).2.2.2.2.1) (And.intro ((HV.out _ K).2.2.2.2.2.1) (And.intro ((HV.out _ K).2.2.2.2.2.2.1) (And.intro ((HV.out _ K).2.2.2.2.2.2.2.1) (And.intro ((HV.out _ K).2.2.2.2.2.2.2.2.1) (And.intro ((HV.out _ K).2.2.2.2.2.2.2.2.2.1) (And.intro ((HV.out _ K).2.2.2.2.2.2.2.2.2.2.1) (And.intro ((HV.out _ K).2.2.2.2.2.2.2.2.2.2.2.1) (And.intro ((HV.out _ K).2.2.2.2.2.2.2.2.2.2.2.2.1) (And.intro ((HV.out _ K).2.2.2.2.2.2.2.2.2.2.2.2.2.1) (And.intro ((HV.out _ K).2.2.2.2.2.2.2.2.2.2.2.2.2.2.1) (And.intro ((HV.out _ K).2.2.2.2.2.2.2.2.2.2.2.2.2.2.2.1) (And.intro ((HV.out _ K).2.2.2.2.2.2.2.2.2.2.2.2.2.2.2.2.1) (And.intro ((HV.out _ K).2.2.2.2.2.2.2.2.2.2.2.2.2.2.2.2.2.1) (And.intro ((HV.out _ K).2.2.2.2.2.2.2.2.2.2.2.2.2.2.2.2.2.2.1) ((HV.out _ K).2.2.2.2.2.2.2.2.2.2.2.2.2.2.2.2.2.2.2))))))))))))))))))))
     refine wp_region_held_drew (S:=fun w' => w'.cell? ⟨pg,0,none⟩ = some (.bool g0)∧w'.cell? ⟨pg,1,none⟩ = some (.slice g1 g3 g4)∧w'.cell? ⟨pg,2,none⟩ = some (.bool false)∧w'.cell? ⟨pg,3,none⟩ = some (.slice g2 g5 g6)∧w'.cell? ⟨pc,0,none⟩ = some (.bool h0)∧w'.cell? ⟨pc,1,none⟩ = some (.slice h1 h3 h4)∧w'.cell? ⟨pc,2,none⟩ = some (.bool false)∧w'.cell? ⟨pc,3,none⟩ = some (.slice h2 h5 h6)∧w'.cell? ⟨p7,0,none⟩ = some (.bool t0)∧w'.cell? ⟨p7,1,none⟩ = some (.slice t1 t3 t4)∧w'.cell? ⟨p7,2,none⟩ = some (.bool false)∧w'.cell? ⟨p7,3,none⟩ = some (.slice t2 t5 t6)∧w'.cell? ⟨pp,0,none⟩ = some (.bool p0)∧w'.cell? ⟨pp,1,none⟩ = some (.slice p1 p3 p4)∧w'.cell? ⟨pp,2,none⟩ = some (.bool false)∧w'.cell? ⟨pp,3,none⟩ = some (.slice p2 p5 p6)∧w'.cell? ⟨pd,0,none⟩ = some (.bool d0)∧w'.cell? ⟨pd,1,none⟩ = some (.slice d1 d3 d4)∧w'.cell? ⟨pd,2,none⟩ = some (.bool false)∧w'.cell? ⟨pd,3,none⟩ = some (.slice d2 d5 d6)) (by kernel_rfl) (sS.out _ KT) (fun hHeld => ?_)
     generalize W7.drew = Wd at KT hHeld ⊢
     refine take1 (i:=0) (v:=?vbx0x1) rfl rfl (by kernel_rfl) (by kernel_rfl) (by kernel_rfl) (fun _ _ _ h => h) (Or.inl ⟨by kernel_rfl,?ybx0x1⟩) hHeld ?rbx0x1
     case ybx0x1 =>
      intro w' hSw
      obtain ⟨hSw0,hSw1,hSw2,hSw3,hSw4,hSw5,hSw6,hSw7,hSw8,hSw9,hSw10,hSw11,hSw12,hSw13,hSw14,hSw15,hSw16,hSw17,hSw18,hSw19⟩:=hSw
      go_simp
      with_reducible rfl
     case rbx0x1 =>
     simp only [List.set_cons_zero,List.set_cons_succ]
     refine take1 (i:=1) (v:=?vbx1x2) rfl rfl (by kernel_rfl) (by kernel_rfl) (by kernel_rfl) (fun _ _ _ h => h) (Or.inl ⟨by kernel_rfl,?ybx1x2⟩) hHeld ?rbx1x2
     case ybx1x2 =>
      intro w' hSw
      obtain ⟨hSw0,hSw1,hSw2,hSw3,hSw4,hSw5,hSw6,hSw7,hSw8,hSw9,hSw10,hSw11,hSw12,hSw13,hSw14,hSw15,hSw16,hSw17,hSw18,hSw19⟩:=hSw
      go_simp
      with_reducible rfl
     case rbx1x2 =>
     simp only [List.set_cons_zero,List.set_cons_succ]
     refine take1 (i:=2) (v:=?vbx2x3) rfl rfl (by kernel_rfl) (by kernel_rfl) (by kernel_rfl) (fun _ _ _ h => h) (Or.inl ⟨by kernel_rfl,?ybx2x3⟩) hHeld ?rbx2x3
     case ybx2x3 =>
      intro w' hSw
      obtain ⟨hSw0,hSw1,hSw2,hSw3,hSw4,hSw5,hSw6,hSw7,hSw8,hSw9,hSw10,hSw11,hSw12,hSw13,hSw14,hSw15,hSw16,hSw17,hSw18,hSw19⟩:=hSw
      go_simp
      with_reducible rfl
     case rbx2x3 =>
     simp only [List.set_cons_zero,List.set_cons_succ]
     refine take1 (i:=4) (v:=?vbx4x4) rfl rfl (by kernel_rfl) (by kernel_rfl) (by kernel_rfl) (fun _ _ _ h => h) (Or.inl ⟨by kernel_rfl,?ybx4x4⟩) hHeld ?rbx4x4
     case ybx4x4 =>
      intro w' hSw
      obtain ⟨hSw0,hSw1,hSw2,hSw3,hSw4,hSw5,hSw6,hSw7,hSw8,hSw9,hSw10,hSw11,hSw12,hSw13,hSw14,hSw15,hSw16,hSw17,hSw18,hSw19⟩:=hSw
      go_simp
      with_reducible rfl
     case rbx4x4 =>
     simp only [List.set_cons_zero,List.set_cons_succ]
     refine take1 (i:=5) (v:=?vbx5x5) rfl rfl (by kernel_rfl) (by kernel_rfl) (by kernel_rfl) (fun _ _ _ h => h) (Or.inl ⟨by kernel_rfl,?ybx5x5⟩) hHeld ?rbx5x5
     case ybx5x5 =>
      intro w' hSw
      obtain ⟨hSw0,hSw1,hSw2,hSw3,hSw4,hSw5,hSw6,hSw7,hSw8,hSw9,hSw10,hSw11,hSw12,hSw13,hSw14,hSw15,hSw16,hSw17,hSw18,hSw19⟩:=hSw
      go_simp
      with_reducible rfl
     case rbx5x5 =>
     simp only [List.set_cons_zero,List.set_cons_succ]
     refine take1 (i:=6) (v:=?vbx6x6) rfl rfl (by kernel_rfl) (by kernel_rfl) (by kernel_rfl) (fun _ _ _ h => h) (Or.inl ⟨by kernel_rfl,?ybx6x6⟩) hHeld ?rbx6x6
     case ybx6x6 =>
      intro w' hSw
      obtain ⟨hSw0,hSw1,hSw2,hSw3,hSw4,hSw5,hSw6,hSw7,hSw8,hSw9,hSw10,hSw11,hSw12,hSw13,hSw14,hSw15,hSw16,hSw17,hSw18,hSw19⟩:=hSw
      go_simp
      with_reducible rfl
     case rbx6x6 =>
     simp only [List.set_cons_zero,List.set_cons_succ]
     refine wpAnyH_ready (rs:=[3,8,9]) (by kernel_rfl) (by simp) ?_
     refine AllReadyH.cons rfl (fun K hK => ?_) ?_
     ·
      go_simp
      refine (line_any _ (HTG.out.1.kept KT) (own100 (HTG.out.2.1.kept KT)) (HAT.out.1.rs.kept KT) (by decide) HB1.out.1 HB1.out.2.1 HB1.out.2.2.1 HB1.out.2.2.2).mono ?_
      rintro e w8 ⟨hk8,vx,rfl,tx⟩
      obtain ⟨xa0,xa1,xa2,xa3,xa4,xa5,xa6,rfl⟩:=tx.shape
      refine hK.out _ _ (sS.out _ (KT.trans hk8)) (fun hHeld => ?_)
      clear hK K
      have KT:=KT.trans hk8
      refine wpAnyH_ready (rs:=[7,8,9]) (by kernel_rfl) (by simp) ?_
      refine AllReadyH.cons rfl (fun K hK => ?_) ?_
      ·
       go_simp
       refine (line_any _ (HTP.out.1.kept KT) (own100 (HTP.out.2.1.kept KT)) (HAT.out.1.rs.kept KT) (by decide) HB2.out.1 HB2.out.2.1 HB2.out.2.2.1 HB2.out.2.2.2).mono ?_
       rintro e w9 ⟨hk9,vy,rfl,ty⟩
       obtain ⟨ya0,ya1,ya2,ya3,ya4,ya5,ya6,rfl⟩:=ty.shape
       refine hK.out _ _ (sS.out _ (KT.trans hk9)) (fun hHeld => ?_)
       clear hK K
       have tx:=RT.kept tx hk9
       have KT:=KT.trans hk9
       refine wpAnyH_ready (rs:=[8,9]) (by kernel_rfl) (by simp) ?_
       refine AllReadyH.cons rfl (fun K hK => ?_) ?_
       ·
        go_simp
        refine hK.out _ _ (sS.out _ (KT.alloc _)) (fun hHeld => ?_)
        clear hK K
        have zpa:=F.RRow.alloc w9 (.bool false) (.slice none 0 0) (.bool false) (.slice none 0 0)
        have hgpa:W7.heap.size≤w9.heap.size:=KT.size
        have tx:=RT.kept tx ((Kept.refl w9).alloc (.cells #[.bool false,.slice none 0 0,.bool false,.slice none 0 0] 29))
        have ty:=RT.kept ty ((Kept.refl w9).alloc (.cells #[.bool false,.slice none 0 0,.bool false,.slice none 0 0] 29))
        have KT:=KT.alloc (.cells #[.bool false,.slice none 0 0,.bool false,.slice none 0 0] 29)
        obtain ⟨pa,hppa⟩:∃ p,p = w9.heap.size:=⟨_,rfl⟩
        rw [← hppa] at zpa hgpa  ⊢
        generalize w9.alloc (.cells #[.bool false,.slice none 0 0,.bool false,.slice none 0 0] 29) = Wa8 at zpa  tx ty KT hHeld ⊢
        clear hppa
        refine wpAnyH_ready (rs:=[9]) (by kernel_rfl) (by simp) ?_
        refine AllReadyH.cons rfl (fun K hK => ?_) AllReadyH.nil
        go_simp
        refine hK.out _ _ (sS.out _ (KT.alloc _)) (fun hHeld => ?_)
        clear hK K
        have zpb:=F.RRow.alloc Wa8 (.bool false) (.slice none 0 0) (.bool false) (.slice none 0 0)
        have hgpb:W7.heap.size≤Wa8.heap.size:=KT.size
        have dpbpa:¬ (Wa8.heap.size = pa):=by have:=zpa.lt; omega
        have dpapb:¬ (pa = Wa8.heap.size):=by have:=zpa.lt; omega
        have zpa:=zpa.kept ((Kept.refl Wa8).alloc (.cells #[.bool false,.slice none 0 0,.bool false,.slice none 0 0] 29))
        have tx:=RT.kept tx ((Kept.refl Wa8).alloc (.cells #[.bool false,.slice none 0 0,.bool false,.slice none 0 0] 29))
        have ty:=RT.kept ty ((Kept.refl Wa8).alloc (.cells #[.bool false,.slice none 0 0,.bool false,.slice none 0 0] 29))
        have KT:=KT.alloc (.cells #[.bool false,.slice none 0 0,.bool false,.slice none 0 0] 29)
        obtain ⟨pb,hppb⟩:∃ p,p = Wa8.heap.size:=⟨_,rfl⟩
        rw [← hppb] at zpb hgpb dpbpa dpapb ⊢
        generalize Wa8.alloc (.cells #[.bool false,.slice none 0 0,.bool false,.slice none 0 0] 29) = Wa9 at zpb zpa tx ty KT hHeld ⊢
        clear hppb
        have cpa0:=zpa.c0
        have cpa1:=zpa.c1
        have cpa2:=zpa.c2
        have cpa3:=zpa.c3
        have gpa0:=zpa.fz 0
        have gpa1:=zpa.fz 1
        have gpa2:=zpa.fz 2
        have gpa3:=zpa.fz 3
        refine wpAnyH_ready (rs:=[10]) (by kernel_rfl) (by simp) ?_
        refine AllReadyH.cons rfl (fun K hK => ?_) AllReadyH.nil
        go_simp
        refine hK.out _ _ (sS.out _ (Q.Kept.put4 KT hgpa _ _ _ _)) (fun hHeld => ?_)
        clear hK K
        have epa:=rrow_put4 zpa (.bool xa0) (.slice xa1 xa3 xa4) (.bool false) (.slice xa2 xa5 xa6)
        have zpb:=Q.rrow_far zpb dpbpa (.bool xa0) (.slice xa1 xa3 xa4) (.bool false) (.slice xa2 xa5 xa6)
        have tx:=RT.put4 tx zpa (.bool xa0) (.slice xa1 xa3 xa4) (.bool false) (.slice xa2 xa5 xa6)
        have ty:=RT.put4 ty zpa (.bool xa0) (.slice xa1 xa3 xa4) (.bool false) (.slice xa2 xa5 xa6)
        have KT:=Q.Kept.put4 KT hgpa (.bool xa0) (.slice xa1 xa3 xa4) (.bool false) (.slice xa2 xa5 xa6)
        clear cpa0 cpa1 cpa2 cpa3 gpa0 gpa1 gpa2 gpa3 zpa
        unfold Q.put4 at epa zpb tx ty KT
        generalize (((Wa9.setCell ⟨pa,0,none⟩ (.bool xa0)).setCell ⟨pa,1,none⟩ (.slice xa1 xa3 xa4)).setCell ⟨pa,2,none⟩ (.bool false)).setCell ⟨pa,3,none⟩ (.slice xa2 xa5 xa6) = Ws10 at epa zpb tx ty KT hHeld ⊢
        have cpb0:=zpb.c0
        have cpb1:=zpb.c1
        have cpb2:=zpb.c2
        have cpb3:=zpb.c3
        have gpb0:=zpb.fz 0
        have gpb1:=zpb.fz 1
        have gpb2:=zpb.fz 2
        have gpb3:=zpb.fz 3
        refine wpAnyH_ready (rs:=[11]) (by kernel_rfl) (by simp) ?_
        refine AllReadyH.cons rfl (fun K hK => ?_) AllReadyH.nil
        go_simp
        refine hK.out _ _ (sS.out _ (Q.Kept.put4 KT hgpb _ _ _ _)) (fun hHeld => ?_)
        clear hK K
        have epb:=rrow_put4 zpb (.bool ya0) (.slice ya1 ya3 ya4) (.bool false) (.slice ya2 ya5 ya6)
        have epa:=Q.rrow_far epa dpapb (.bool ya0) (.slice ya1 ya3 ya4) (.bool false) (.slice ya2 ya5 ya6)
        have tx:=RT.put4 tx zpb (.bool ya0) (.slice ya1 ya3 ya4) (.bool false) (.slice ya2 ya5 ya6)
        have ty:=RT.put4 ty zpb (.bool ya0) (.slice ya1 ya3 ya4) (.bool false) (.slice ya2 ya5 ya6)
        have KT:=Q.Kept.put4 KT hgpb (.bool ya0) (.slice ya1 ya3 ya4) (.bool false) (.slice ya2 ya5 ya6)
        clear cpb0 cpb1 cpb2 cpb3 gpb0 gpb1 gpb2 gpb3 zpb
        unfold Q.put4 at epb epa tx ty KT
        generalize (((Ws10.setCell ⟨pb,0,none⟩ (.bool ya0)).setCell ⟨pb,1,none⟩ (.slice ya1 ya3 ya4)).setCell ⟨pb,2,none⟩ (.bool false)).setCell ⟨pb,3,none⟩ (.slice ya2 ya5 ya6) = Ws11 at epb epa tx ty KT hHeld ⊢
        refine wpAnyH_done (by kernel_rfl) ?_ _
        go_wp2_with fail
        go_meet
        case rel => exact ⟨pa,xa0,xa1,xa2,xa3,xa4,xa5,xa6,pb,ya0,ya1,ya2,ya3,ya4,ya5,ya6,rfl,rfl,KT,epa,epb,tx.rs,ty.rs⟩
       refine AllReadyH.cons rfl (fun K hK => ?_) AllReadyH.nil
       go_simp
       refine hK.out _ _ (sS.out _ (KT.alloc _)) (fun hHeld => ?_)
       clear hK K
       have zpb:=F.RRow.alloc w9 (.bool false) (.slice none 0 0) (.bool false) (.slice none 0 0)
       have hgpb:W7.heap.size≤w9.heap.size:=KT.size
       have tx:=RT.kept tx ((Kept.refl w9).alloc (.cells #[.bool false,.slice none 0 0,.bool false,.slice none 0 0] 29))
       have ty:=RT.kept ty ((Kept.refl w9).alloc (.cells #[.bool false,.slice none 0 0,.bool false,.slice none 0 0] 29))
       have KT:=KT.alloc (.cells #[.bool false,.slice none 0 0,.bool false,.slice none 0 0] 29)
       obtain ⟨pb,hppb⟩:∃ p,p = w9.heap.size:=⟨_,rfl⟩
       rw [← hppb] at zpb hgpb  ⊢
       generalize w9.alloc (.cells #[.bool false,.slice none 0 0,.bool false,.slice none 0 0] 29) = Wa9 at zpb  tx ty KT hHeld ⊢
       clear hppb
       refine wpAnyH_ready (rs:=[8]) (by kernel_rfl) (by simp) ?_
       refine AllReadyH.cons rfl (fun K hK => ?_) AllReadyH.nil
       go_simp
       refine hK.out _ _ (sS.out _ (KT.alloc _)) (fun hHeld => ?_)
       clear hK K
       have zpa:=F.RRow.alloc Wa9 (.bool false) (.slice none 0 0) (.bool false) (.slice none 0 0)
       have hgpa:W7.heap.size≤Wa9.heap.size:=KT.size
       have dpapb:¬ (Wa9.heap.size = pb):=by have:=zpb.lt; omega
       have dpbpa:¬ (pb = Wa9.heap.size):=by have:=zpb.lt; omega
       have zpb:=zpb.kept ((Kept.refl Wa9).alloc (.cells #[.bool false,.slice none 0 0,.bool false,.slice none 0 0] 29))
       have tx:=RT.kept tx ((Kept.refl Wa9).alloc (.cells #[.bool false,.slice none 0 0,.bool false,.slice none 0 0] 29))
       have ty:=RT.kept ty ((Kept.refl Wa9).alloc (.cells #[.bool false,.slice none 0 0,.bool false,.slice none 0 0] 29))
       have KT:=KT.alloc (.cells #[.bool false,.slice none 0 0,.bool false,.slice none 0 0] 29)
       obtain ⟨pa,hppa⟩:∃ p,p = Wa9.heap.size:=⟨_,rfl⟩
       rw [← hppa] at zpa hgpa dpapb dpbpa ⊢
       generalize Wa9.alloc (.cells #[.bool false,.slice none 0 0,.bool false,.slice none 0 0] 29) = Wa8 at zpa zpb tx ty KT hHeld ⊢
       clear hppa
       have cpa0:=zpa.c0
       have cpa1:=zpa.c1
       have cpa2:=zpa.c2
       have cpa3:=zpa.c3
       have gpa0:=zpa.fz 0
       have gpa1:=zpa.fz 1
       have gpa2:=zpa.fz 2
       have gpa3:=zpa.fz 3
       refine wpAnyH_ready (rs:=[10]) (by kernel_rfl) (by simp) ?_
       refine AllReadyH.cons rfl (fun K hK => ?_) AllReadyH.nil
       go_simp
       refine hK.out _ _ (sS.out _ (Q.Kept.put4 KT hgpa _ _ _ _)) (fun hHeld => ?_)
       clear hK K
       have epa:=rrow_put4 zpa (.bool xa0) (.slice xa1 xa3 xa4) (.bool false) (.slice xa2 xa5 xa6)
       have zpb:=Q.rrow_far zpb dpbpa (.bool xa0) (.slice xa1 xa3 xa4) (.bool false) (.slice xa2 xa5 xa6)
       have tx:=RT.put4 tx zpa (.bool xa0) (.slice xa1 xa3 xa4) (.bool false) (.slice xa2 xa5 xa6)
       have ty:=RT.put4 ty zpa (.bool xa0) (.slice xa1 xa3 xa4) (.bool false) (.slice xa2 xa5 xa6)
       have KT:=Q.Kept.put4 KT hgpa (.bool xa0) (.slice xa1 xa3 xa4) (.bool false) (.slice xa2 xa5 xa6)
       clear cpa0 cpa1 cpa2 cpa3 gpa0 gpa1 gpa2 gpa3 zpa
       unfold Q.put4 at epa zpb tx ty KT
       generalize (((Wa8.setCell ⟨pa,0,none⟩ (.bool xa0)).setCell ⟨pa,1,none⟩ (.slice xa1 xa3 xa4)).setCell ⟨pa,2,none⟩ (.bool false)).setCell ⟨pa,3,none⟩ (.slice xa2 xa5 xa6) = Ws10 at epa zpb tx ty KT hHeld ⊢
       have cpb0:=zpb.c0
       have cpb1:=zpb.c1
       have cpb2:=zpb.c2
       have cpb3:=zpb.c3
       have gpb0:=zpb.fz 0
       have gpb1:=zpb.fz 1
       have gpb2:=zpb.fz 2
       have gpb3:=zpb.fz 3
       refine wpAnyH_ready (rs:=[11]) (by kernel_rfl) (by simp) ?_
       refine AllReadyH.cons rfl (fun K hK => ?_) AllReadyH.nil
       go_simp
       refine hK.out _ _ (sS.out _ (Q.Kept.put4 KT hgpb _ _ _ _)) (fun hHeld => ?_)
       clear hK K
       have epb:=rrow_put4 zpb (.bool ya0) (.slice ya1 ya3 ya4) (.bool false) (.slice ya2 ya5 ya6)
       have epa:=Q.rrow_far epa dpapb (.bool ya0) (.slice ya1 ya3 ya4) (.bool false) (.slice ya2 ya5 ya6)
       have tx:=RT.put4 tx zpb (.bool ya0) (.slice ya1 ya3 ya4) (.bool false) (.slice ya2 ya5 ya6)
       have ty:=RT.put4 ty zpb (.bool ya0) (.slice ya1 ya3 ya4) (.bool false) (.slice ya2 ya5 ya6)
       have KT:=Q.Kept.put4 KT hgpb (.bool ya0) (.slice ya1 ya3 ya4) (.bool false) (.slice ya2 ya5 ya6)
       clear cpb0 cpb1 cpb2 cpb3 gpb0 gpb1 gpb2 gpb3 zpb
       unfold Q.put4 at epb epa tx ty KT
       generalize (((Ws10.setCell ⟨pb,0,none⟩ (.bool ya0)).setCell ⟨pb,1,none⟩ (.slice ya1 ya3 ya4)).setCell ⟨pb,2,none⟩ (.bool false)).setCell ⟨pb,3,none⟩ (.slice ya2 ya5 ya6) = Ws11 at epb epa tx ty KT hHeld ⊢
       refine wpAnyH_done (by kernel_rfl) ?_ _
       go_wp2_with fail
       go_meet
       case rel => exact ⟨pa,xa0,xa1,xa2,xa3,xa4,xa5,xa6,pb,ya0,ya1,ya2,ya3,ya4,ya5,ya6,rfl,rfl,KT,epa,epb,tx.rs,ty.rs⟩
      refine AllReadyH.cons rfl (fun K hK => ?_) ?_
      ·
       go_simp
       refine hK.out _ _ (sS.out _ (KT.alloc _)) (fun hHeld => ?_)
       clear hK K
       have zpa:=F.RRow.alloc w8 (.bool false) (.slice none 0 0) (.bool false) (.slice none 0 0)
       have hgpa:W7.heap.size≤w8.heap.size:=KT.size
       have tx:=RT.kept tx ((Kept.refl w8).alloc (.cells #[.bool false,.slice none 0 0,.bool false,.slice none 0 0] 29))
       have KT:=KT.alloc (.cells #[.bool false,.slice none 0 0,.bool false,.slice none 0 0] 29)
       obtain ⟨pa,hppa⟩:∃ p,p = w8.heap.size:=⟨_,rfl⟩
       rw [← hppa] at zpa hgpa  ⊢
       generalize w8.alloc (.cells #[.bool false,.slice none 0 0,.bool false,.slice none 0 0] 29) = Wa8 at zpa  tx KT hHeld ⊢
       clear hppa
       refine wpAnyH_ready (rs:=[7,9]) (by kernel_rfl) (by simp) ?_
       refine AllReadyH.cons rfl (fun K hK => ?_) ?_
       ·
        go_simp
        refine (line_any _ (HTP.out.1.kept KT) (own100 (HTP.out.2.1.kept KT)) (HAT.out.1.rs.kept KT) (by decide) HB2.out.1 HB2.out.2.1 HB2.out.2.2.1 HB2.out.2.2.2).mono ?_
        rintro e w9 ⟨hk9,vy,rfl,ty⟩
        obtain ⟨ya0,ya1,ya2,ya3,ya4,ya5,ya6,rfl⟩:=ty.shape
        refine hK.out _ _ (sS.out _ (KT.trans hk9)) (fun hHeld => ?_)
        clear hK K
        have zpa:=zpa.kept hk9
        have tx:=RT.kept tx hk9
        have KT:=KT.trans hk9
        refine wpAnyH_ready (rs:=[9]) (by kernel_rfl) (by simp) ?_
        refine AllReadyH.cons rfl (fun K hK => ?_) AllReadyH.nil
        go_simp
        refine hK.out _ _ (sS.out _ (KT.alloc _)) (fun hHeld => ?_)
        clear hK K
        have zpb:=F.RRow.alloc w9 (.bool false) (.slice none 0 0) (.bool false) (.slice none 0 0)
        have hgpb:W7.heap.size≤w9.heap.size:=KT.size
        have dpbpa:¬ (w9.heap.size = pa):=by have:=zpa.lt; omega
        have dpapb:¬ (pa = w9.heap.size):=by have:=zpa.lt; omega
        have zpa:=zpa.kept ((Kept.refl w9).alloc (.cells #[.bool false,.slice none 0 0,.bool false,.slice none 0 0] 29))
        have tx:=RT.kept tx ((Kept.refl w9).alloc (.cells #[.bool false,.slice none 0 0,.bool false,.slice none 0 0] 29))
        have ty:=RT.kept ty ((Kept.refl w9).alloc (.cells #[.bool false,.slice none 0 0,.bool false,.slice none 0 0] 29))
        have KT:=KT.alloc (.cells #[.bool false,.slice none 0 0,.bool false,.slice none 0 0] 29)
        obtain ⟨pb,hppb⟩:∃ p,p = w9.heap.size:=⟨_,rfl⟩
        rw [← hppb] at zpb hgpb dpbpa dpapb ⊢
        generalize w9.alloc (.cells #[.bool false,.slice none 0 0,.bool false,.slice none 0 0] 29) = Wa9 at zpb zpa tx ty KT hHeld ⊢
        clear hppb
        have cpa0:=zpa.c0
        have cpa1:=zpa.c1
        have cpa2:=zpa.c2
        have cpa3:=zpa.c3
        have gpa0:=zpa.fz 0
        have gpa1:=zpa.fz 1
        have gpa2:=zpa.fz 2
        have gpa3:=zpa.fz 3
        refine wpAnyH_ready (rs:=[10]) (by kernel_rfl) (by simp) ?_
        refine AllReadyH.cons rfl (fun K hK => ?_) AllReadyH.nil
        go_simp
        refine hK.out _ _ (sS.out _ (Q.Kept.put4 KT hgpa _ _ _ _)) (fun hHeld => ?_)
        clear hK K
        have epa:=rrow_put4 zpa (.bool xa0) (.slice xa1 xa3 xa4) (.bool false) (.slice xa2 xa5 xa6)
        have zpb:=Q.rrow_far zpb dpbpa (.bool xa0) (.slice xa1 xa3 xa4) (.bool false) (.slice xa2 xa5 xa6)
        have tx:=RT.put4 tx zpa (.bool xa0) (.slice xa1 xa3 xa4) (.bool false) (.slice xa2 xa5 xa6)
        have ty:=RT.put4 ty zpa (.bool xa0) (.slice xa1 xa3 xa4) (.bool false) (.slice xa2 xa5 xa6)
        have KT:=Q.Kept.put4 KT hgpa (.bool xa0) (.slice xa1 xa3 xa4) (.bool false) (.slice xa2 xa5 xa6)
        clear cpa0 cpa1 cpa2 cpa3 gpa0 gpa1 gpa2 gpa3 zpa
        unfold Q.put4 at epa zpb tx ty KT
        generalize (((Wa9.setCell ⟨pa,0,none⟩ (.bool xa0)).setCell ⟨pa,1,none⟩ (.slice xa1 xa3 xa4)).setCell ⟨pa,2,none⟩ (.bool false)).setCell ⟨pa,3,none⟩ (.slice xa2 xa5 xa6) = Ws10 at epa zpb tx ty KT hHeld ⊢
        have cpb0:=zpb.c0
        have cpb1:=zpb.c1
        have cpb2:=zpb.c2
        have cpb3:=zpb.c3
        have gpb0:=zpb.fz 0
        have gpb1:=zpb.fz 1
        have gpb2:=zpb.fz 2
        have gpb3:=zpb.fz 3
        refine wpAnyH_ready (rs:=[11]) (by kernel_rfl) (by simp) ?_
        refine AllReadyH.cons rfl (fun K hK => ?_) AllReadyH.nil
        go_simp
        refine hK.out _ _ (sS.out _ (Q.Kept.put4 KT hgpb _ _ _ _)) (fun hHeld => ?_)
        clear hK K
        have epb:=rrow_put4 zpb (.bool ya0) (.slice ya1 ya3 ya4) (.bool false) (.slice ya2 ya5 ya6)
        have epa:=Q.rrow_far epa dpapb (.bool ya0) (.slice ya1 ya3 ya4) (.bool false) (.slice ya2 ya5 ya6)
        have tx:=RT.put4 tx zpb (.bool ya0) (.slice ya1 ya3 ya4) (.bool false) (.slice ya2 ya5 ya6)
        have ty:=RT.put4 ty zpb (.bool ya0) (.slice ya1 ya3 ya4) (.bool false) (.slice ya2 ya5 ya6)
        have KT:=Q.Kept.put4 KT hgpb (.bool ya0) (.slice ya1 ya3 ya4) (.bool false) (.slice ya2 ya5 ya6)
        clear cpb0 cpb1 cpb2 cpb3 gpb0 gpb1 gpb2 gpb3 zpb
        unfold Q.put4 at epb epa tx ty KT
        generalize (((Ws10.setCell ⟨pb,0,none⟩ (.bool ya0)).setCell ⟨pb,1,none⟩ (.slice ya1 ya3 ya4)).setCell ⟨pb,2,none⟩ (.bool false)).setCell ⟨pb,3,none⟩ (.slice ya2 ya5 ya6) = Ws11 at epb epa tx ty KT hHeld ⊢
        refine wpAnyH_done (by kernel_rfl) ?_ _
        go_wp2_with fail
        go_meet
        case rel => exact ⟨pa,xa0,xa1,xa2,xa3,xa4,xa5,xa6,pb,ya0,ya1,ya2,ya3,ya4,ya5,ya6,rfl,rfl,KT,epa,epb,tx.rs,ty.rs⟩
       refine AllReadyH.cons rfl (fun K hK => ?_) AllReadyH.nil
       go_simp
       refine hK.out _ _ (sS.out _ (KT.alloc _)) (fun hHeld => ?_)
       clear hK K
       have zpb:=F.RRow.alloc Wa8 (.bool false) (.slice none 0 0) (.bool false) (.slice none 0 0)
       have hgpb:W7.heap.size≤Wa8.heap.size:=KT.size
       have dpbpa:¬ (Wa8.heap.size = pa):=by have:=zpa.lt; omega
       have dpapb:¬ (pa = Wa8.heap.size):=by have:=zpa.lt; omega
       have zpa:=zpa.kept ((Kept.refl Wa8).alloc (.cells #[.bool false,.slice none 0 0,.bool false,.slice none 0 0] 29))
       have tx:=RT.kept tx ((Kept.refl Wa8).alloc (.cells #[.bool false,.slice none 0 0,.bool false,.slice none 0 0] 29))
       have KT:=KT.alloc (.cells #[.bool false,.slice none 0 0,.bool false,.slice none 0 0] 29)
       obtain ⟨pb,hppb⟩:∃ p,p = Wa8.heap.size:=⟨_,rfl⟩
       rw [← hppb] at zpb hgpb dpbpa dpapb ⊢
       generalize Wa8.alloc (.cells #[.bool false,.slice none 0 0,.bool false,.slice none 0 0] 29) = Wa9 at zpb zpa tx KT hHeld ⊢
       clear hppb
       refine wpAnyH_ready (rs:=[7]) (by kernel_rfl) (by simp) ?_
       refine AllReadyH.cons rfl (fun K hK => ?_) AllReadyH.nil
       go_simp
       refine (line_any _ (HTP.out.1.kept KT) (own100 (HTP.out.2.1.kept KT)) (HAT.out.1.rs.kept KT) (by decide) HB2.out.1 HB2.out.2.1 HB2.out.2.2.1 HB2.out.2.2.2).mono ?_
       rintro e w9 ⟨hk9,vy,rfl,ty⟩
       obtain ⟨ya0,ya1,ya2,ya3,ya4,ya5,ya6,rfl⟩:=ty.shape
       refine hK.out _ _ (sS.out _ (KT.trans hk9)) (fun hHeld => ?_)
       clear hK K
       have zpa:=zpa.kept hk9
       have zpb:=zpb.kept hk9
       have tx:=RT.kept tx hk9
       have KT:=KT.trans hk9
       have cpa0:=zpa.c0
       have cpa1:=zpa.c1
       have cpa2:=zpa.c2
       have cpa3:=zpa.c3
       have gpa0:=zpa.fz 0
       have gpa1:=zpa.fz 1
       have gpa2:=zpa.fz 2
       have gpa3:=zpa.fz 3
       refine wpAnyH_ready (rs:=[10]) (by kernel_rfl) (by simp) ?_
       refine AllReadyH.cons rfl (fun K hK => ?_) AllReadyH.nil
       go_simp
       refine hK.out _ _ (sS.out _ (Q.Kept.put4 KT hgpa _ _ _ _)) (fun hHeld => ?_)
       clear hK K
       have epa:=rrow_put4 zpa (.bool xa0) (.slice xa1 xa3 xa4) (.bool false) (.slice xa2 xa5 xa6)
       have zpb:=Q.rrow_far zpb dpbpa (.bool xa0) (.slice xa1 xa3 xa4) (.bool false) (.slice xa2 xa5 xa6)
       have tx:=RT.put4 tx zpa (.bool xa0) (.slice xa1 xa3 xa4) (.bool false) (.slice xa2 xa5 xa6)
       have ty:=RT.put4 ty zpa (.bool xa0) (.slice xa1 xa3 xa4) (.bool false) (.slice xa2 xa5 xa6)
       have KT:=Q.Kept.put4 KT hgpa (.bool xa0) (.slice xa1 xa3 xa4) (.bool false) (.slice xa2 xa5 xa6)
       clear cpa0 cpa1 cpa2 cpa3 gpa0 gpa1 gpa2 gpa3 zpa
       unfold Q.put4 at epa zpb tx ty KT
       generalize (((w9.setCell ⟨pa,0,none⟩ (.bool xa0)).setCell ⟨pa,1,none⟩ (.slice xa1 xa3 xa4)).setCell ⟨pa,2,none⟩ (.bool false)).setCell ⟨pa,3,none⟩ (.slice xa2 xa5 xa6) = Ws10 at epa zpb tx ty KT hHeld ⊢
       have cpb0:=zpb.c0
       have cpb1:=zpb.c1
       have cpb2:=zpb.c2
       have cpb3:=zpb.c3
       have gpb0:=zpb.fz 0
       have gpb1:=zpb.fz 1
       have gpb2:=zpb.fz 2
       have gpb3:=zpb.fz 3
       refine wpAnyH_ready (rs:=[11]) (by kernel_rfl) (by simp) ?_
       refine AllReadyH.cons rfl (fun K hK => ?_) AllReadyH.nil
       go_simp
       refine hK.out _ _ (sS.out _ (Q.Kept.put4 KT hgpb _ _ _ _)) (fun hHeld => ?_)
       clear hK K
       have epb:=rrow_put4 zpb (.bool ya0) (.slice ya1 ya3 ya4) (.bool false) (.slice ya2 ya5 ya6)
       have epa:=Q.rrow_far epa dpapb (.bool ya0) (.slice ya1 ya3 ya4) (.bool false) (.slice ya2 ya5 ya6)
       have tx:=RT.put4 tx zpb (.bool ya0) (.slice ya1 ya3 ya4) (.bool false) (.slice ya2 ya5 ya6)
       have ty:=RT.put4 ty zpb (.bool ya0) (.slice ya1 ya3 ya4) (.bool false) (.slice ya2 ya5 ya6)
       have KT:=Q.Kept.put4 KT hgpb (.bool ya0) (.slice ya1 ya3 ya4) (.bool false) (.slice ya2 ya5 ya6)
       clear cpb0 cpb1 cpb2 cpb3 gpb0 gpb1 gpb2 gpb3 zpb
       unfold Q.put4 at epb epa tx ty KT
       generalize (((Ws10.setCell ⟨pb,0,none⟩ (.bool ya0)).setCell ⟨pb,1,none⟩ (.slice ya1 ya3 ya4)).setCell ⟨pb,2,none⟩ (.bool false)).setCell ⟨pb,3,none⟩ (.slice ya2 ya5 ya6) = Ws11 at epb epa tx ty KT hHeld ⊢
       refine wpAnyH_done (by kernel_rfl) ?_ _
       go_wp2_with fail
       go_meet
       case rel => exact ⟨pa,xa0,xa1,xa2,xa3,xa4,xa5,xa6,pb,ya0,ya1,ya2,ya3,ya4,ya5,ya6,rfl,rfl,KT,epa,epb,tx.rs,ty.rs⟩
      refine AllReadyH.cons rfl (fun K hK => ?_) AllReadyH.nil
      go_simp
      refine hK.out _ _ (sS.out _ (KT.alloc _)) (fun hHeld => ?_)
      clear hK K
      have zpb:=F.RRow.alloc w8 (.bool false) (.slice none 0 0) (.bool false) (.slice none 0 0)
      have hgpb:W7.heap.size≤w8.heap.size:=KT.size
      have tx:=RT.kept tx ((Kept.refl w8).alloc (.cells #[.bool false,.slice none 0 0,.bool false,.slice none 0 0] 29))
      have KT:=KT.alloc (.cells #[.bool false,.slice none 0 0,.bool false,.slice none 0 0] 29)
      obtain ⟨pb,hppb⟩:∃ p,p = w8.heap.size:=⟨_,rfl⟩
      rw [← hppb] at zpb hgpb  ⊢
      generalize w8.alloc (.cells #[.bool false,.slice none 0 0,.bool false,.slice none 0 0] 29) = Wa9 at zpb  tx KT hHeld ⊢
      clear hppb
      refine wpAnyH_ready (rs:=[7,8]) (by kernel_rfl) (by simp) ?_
      refine AllReadyH.cons rfl (fun K hK => ?_) ?_
      ·
       go_simp
       refine (line_any _ (HTP.out.1.kept KT) (own100 (HTP.out.2.1.kept KT)) (HAT.out.1.rs.kept KT) (by decide) HB2.out.1 HB2.out.2.1 HB2.out.2.2.1 HB2.out.2.2.2).mono ?_
       rintro e w9 ⟨hk9,vy,rfl,ty⟩
       obtain ⟨ya0,ya1,ya2,ya3,ya4,ya5,ya6,rfl⟩:=ty.shape
       refine hK.out _ _ (sS.out _ (KT.trans hk9)) (fun hHeld => ?_)
       clear hK K
       have zpb:=zpb.kept hk9
       have tx:=RT.kept tx hk9
       have KT:=KT.trans hk9
       refine wpAnyH_ready (rs:=[8]) (by kernel_rfl) (by simp) ?_
       refine AllReadyH.cons rfl (fun K hK => ?_) AllReadyH.nil
       go_simp
       refine hK.out _ _ (sS.out _ (KT.alloc _)) (fun hHeld => ?_)
       clear hK K
       have zpa:=F.RRow.alloc w9 (.bool false) (.slice none 0 0) (.bool false) (.slice none 0 0)
       have hgpa:W7.heap.size≤w9.heap.size:=KT.size
       have dpapb:¬ (w9.heap.size = pb):=by have:=zpb.lt; omega
       have dpbpa:¬ (pb = w9.heap.size):=by have:=zpb.lt; omega
       have zpb:=zpb.kept ((Kept.refl w9).alloc (.cells #[.bool false,.slice none 0 0,.bool false,.slice none 0 0] 29))
       have tx:=RT.kept tx ((Kept.refl w9).alloc (.cells #[.bool false,.slice none 0 0,.bool false,.slice none 0 0] 29))
       have ty:=RT.kept ty ((Kept.refl w9).alloc (.cells #[.bool false,.slice none 0 0,.bool false,.slice none 0 0] 29))
       have KT:=KT.alloc (.cells #[.bool false,.slice none 0 0,.bool false,.slice none 0 0] 29)
       obtain ⟨pa,hppa⟩:∃ p,p = w9.heap.size:=⟨_,rfl⟩
       rw [← hppa] at zpa hgpa dpapb dpbpa ⊢
       generalize w9.alloc (.cells #[.bool false,.slice none 0 0,.bool false,.slice none 0 0] 29) = Wa8 at zpa zpb tx ty KT hHeld ⊢
       clear hppa
       have cpa0:=zpa.c0
       have cpa1:=zpa.c1
       have cpa2:=zpa.c2
       have cpa3:=zpa.c3
       have gpa0:=zpa.fz 0
       have gpa1:=zpa.fz 1
       have gpa2:=zpa.fz 2
       have gpa3:=zpa.fz 3
       refine wpAnyH_ready (rs:=[10]) (by kernel_rfl) (by simp) ?_
       refine AllReadyH.cons rfl (fun K hK => ?_) AllReadyH.nil
       go_simp
       refine hK.out _ _ (sS.out _ (Q.Kept.put4 KT hgpa _ _ _ _)) (fun hHeld => ?_)
       clear hK K
       have epa:=rrow_put4 zpa (.bool xa0) (.slice xa1 xa3 xa4) (.bool false) (.slice xa2 xa5 xa6)
       have zpb:=Q.rrow_far zpb dpbpa (.bool xa0) (.slice xa1 xa3 xa4) (.bool false) (.slice xa2 xa5 xa6)
       have tx:=RT.put4 tx zpa (.bool xa0) (.slice xa1 xa3 xa4) (.bool false) (.slice xa2 xa5 xa6)
       have ty:=RT.put4 ty zpa (.bool xa0) (.slice xa1 xa3 xa4) (.bool false) (.slice xa2 xa5 xa6)
       have KT:=Q.Kept.put4 KT hgpa (.bool xa0) (.slice xa1 xa3 xa4) (.bool false) (.slice xa2 xa5 xa6)
       clear cpa0 cpa1 cpa2 cpa3 gpa0 gpa1 gpa2 gpa3 zpa
       unfold Q.put4 at epa zpb tx ty KT
       generalize (((Wa8.setCell ⟨pa,0,none⟩ (.bool xa0)).setCell ⟨pa,1,none⟩ (.slice xa1 xa3 xa4)).setCell ⟨pa,2,none⟩ (.bool false)).setCell ⟨pa,3,none⟩ (.slice xa2 xa5 xa6) = Ws10 at epa zpb tx ty KT hHeld ⊢
       have cpb0:=zpb.c0
       have cpb1:=zpb.c1
       have cpb2:=zpb.c2
       have cpb3:=zpb.c3
       have gpb0:=zpb.fz 0
       have gpb1:=zpb.fz 1
       have gpb2:=zpb.fz 2
       have gpb3:=zpb.fz 3
       refine wpAnyH_ready (rs:=[11]) (by kernel_rfl) (by simp) ?_
       refine AllReadyH.cons rfl (fun K hK => ?_) AllReadyH.nil
       go_simp
       refine hK.out _ _ (sS.out _ (Q.Kept.put4 KT hgpb _ _ _ _)) (fun hHeld => ?_)
       clear hK K
       have epb:=rrow_put4 zpb (.bool ya0) (.slice ya1 ya3 ya4) (.bool false) (.slice ya2 ya5 ya6)
       have epa:=Q.rrow_far epa dpapb (.bool ya0) (.slice ya1 ya3 ya4) (.bool false) (.slice ya2 ya5 ya6)
       have tx:=RT.put4 tx zpb (.bool ya0) (.slice ya1 ya3 ya4) (.bool false) (.slice ya2 ya5 ya6)
       have ty:=RT.put4 ty zpb (.bool ya0) (.slice ya1 ya3 ya4) (.bool false) (.slice ya2 ya5 ya6)
       have KT:=Q.Kept.put4 KT hgpb (.bool ya0) (.slice ya1 ya3 ya4) (.bool false) (.slice ya2 ya5 ya6)
       clear cpb0 cpb1 cpb2 cpb3 gpb0 gpb1 gpb2 gpb3 zpb
       unfold Q.put4 at epb epa tx ty KT
       generalize (((Ws10.setCell ⟨pb,0,none⟩ (.bool ya0)).setCell ⟨pb,1,none⟩ (.slice ya1 ya3 ya4)).setCell ⟨pb,2,none⟩ (.bool false)).setCell ⟨pb,3,none⟩ (.slice ya2 ya5 ya6) = Ws11 at epb epa tx ty KT hHeld ⊢
       refine wpAnyH_done (by kernel_rfl) ?_ _
       go_wp2_with fail
       go_meet
       case rel => exact ⟨pa,xa0,xa1,xa2,xa3,xa4,xa5,xa6,pb,ya0,ya1,ya2,ya3,ya4,ya5,ya6,rfl,rfl,KT,epa,epb,tx.rs,ty.rs⟩
      refine AllReadyH.cons rfl (fun K hK => ?_) AllReadyH.nil
      go_simp
      refine hK.out _ _ (sS.out _ (KT.alloc _)) (fun hHeld => ?_)
      clear hK K
      have zpa:=F.RRow.alloc Wa9 (.bool false) (.slice none 0 0) (.bool false) (.slice none 0 0)
      have hgpa:W7.heap.size≤Wa9.heap.size:=KT.size
      have dpapb:¬ (Wa9.heap.size = pb):=by have:=zpb.lt; omega
      have dpbpa:¬ (pb = Wa9.heap.size):=by have:=zpb.lt; omega
      have zpb:=zpb.kept ((Kept.refl Wa9).alloc (.cells #[.bool false,.slice none 0 0,.bool false,.slice none 0 0] 29))
      have tx:=RT.kept tx ((Kept.refl Wa9).alloc (.cells #[.bool false,.slice none 0 0,.bool false,.slice none 0 0] 29))
      have KT:=KT.alloc (.cells #[.bool false,.slice none 0 0,.bool false,.slice none 0 0] 29)
      obtain ⟨pa,hppa⟩:∃ p,p = Wa9.heap.size:=⟨_,rfl⟩
      rw [← hppa] at zpa hgpa dpapb dpbpa ⊢
      generalize Wa9.alloc (.cells #[.bool false,.slice none 0 0,.bool false,.slice none 0 0] 29) = Wa8 at zpa zpb tx KT hHeld ⊢
      clear hppa
      refine wpAnyH_ready (rs:=[7]) (by kernel_rfl) (by simp) ?_
      refine AllReadyH.cons rfl (fun K hK => ?_) AllReadyH.nil
      go_simp
      refine (line_any _ (HTP.out.1.kept KT) (own100 (HTP.out.2.1.kept KT)) (HAT.out.1.rs.kept KT) (by decide) HB2.out.1 HB2.out.2.1 HB2.out.2.2.1 HB2.out.2.2.2).mono ?_
      rintro e w9 ⟨hk9,vy,rfl,ty⟩
      obtain ⟨ya0,ya1,ya2,ya3,ya4,ya5,ya6,rfl⟩:=ty.shape
      refine hK.out _ _ (sS.out _ (KT.trans hk9)) (fun hHeld => ?_)
      clear hK K
      have zpb:=zpb.kept hk9
      have zpa:=zpa.kept hk9
      have tx:=RT.kept tx hk9
      have KT:=KT.trans hk9
      have cpa0:=zpa.c0
      have cpa1:=zpa.c1
      have cpa2:=zpa.c2
      have cpa3:=zpa.c3
      have gpa0:=zpa.fz 0
      have gpa1:=zpa.fz 1
      have gpa2:=zpa.fz 2
      have gpa3:=zpa.fz 3
      refine wpAnyH_ready (rs:=[10]) (by kernel_rfl) (by simp) ?_
      refine AllReadyH.cons rfl (fun K hK => ?_) AllReadyH.nil
      go_simp
      refine hK.out _ _ (sS.out _ (Q.Kept.put4 KT hgpa _ _ _ _)) (fun hHeld => ?_)
      clear hK K
      have epa:=rrow_put4 zpa (.bool xa0) (.slice xa1 xa3 xa4) (.bool false) (.slice xa2 xa5 xa6)
      have zpb:=Q.rrow_far zpb dpbpa (.bool xa0) (.slice xa1 xa3 xa4) (.bool false) (.slice xa2 xa5 xa6)
      have tx:=RT.put4 tx zpa (.bool xa0) (.slice xa1 xa3 xa4) (.bool false) (.slice xa2 xa5 xa6)
      have ty:=RT.put4 ty zpa (.bool xa0) (.slice xa1 xa3 xa4) (.bool false) (.slice xa2 xa5 xa6)
      have KT:=Q.Kept.put4 KT hgpa (.bool xa0) (.slice xa1 xa3 xa4) (.bool false) (.slice xa2 xa5 xa6)
      clear cpa0 cpa1 cpa2 cpa3 gpa0 gpa1 gpa2 gpa3 zpa
      unfold Q.put4 at epa zpb tx ty KT
      generalize (((w9.setCell ⟨pa,0,none⟩ (.bool xa0)).setCell ⟨pa,1,none⟩ (.slice xa1 xa3 xa4)).setCell ⟨pa,2,none⟩ (.bool false)).setCell ⟨pa,3,none⟩ (.slice xa2 xa5 xa6) = Ws10 at epa zpb tx ty KT hHeld ⊢
      have cpb0:=zpb.c0
      have cpb1:=zpb.c1
      have cpb2:=zpb.c2
      have cpb3:=zpb.c3
      have gpb0:=zpb.fz 0
      have gpb1:=zpb.fz 1
      have gpb2:=zpb.fz 2
      have gpb3:=zpb.fz 3
      refine wpAnyH_ready (rs:=[11]) (by kernel_rfl) (by simp) ?_
      refine AllReadyH.cons rfl (fun K hK => ?_) AllReadyH.nil
      go_simp
      refine hK.out _ _ (sS.out _ (Q.Kept.put4 KT hgpb _ _ _ _)) (fun hHeld => ?_)
      clear hK K
      have epb:=rrow_put4 zpb (.bool ya0) (.slice ya1 ya3 ya4) (.bool false) (.slice ya2 ya5 ya6)
      have epa:=Q.rrow_far epa dpapb (.bool ya0) (.slice ya1 ya3 ya4) (.bool false) (.slice ya2 ya5 ya6)
      have tx:=RT.put4 tx zpb (.bool ya0) (.slice ya1 ya3 ya4) (.bool false) (.slice ya2 ya5 ya6)
      have ty:=RT.put4 ty zpb (.bool ya0) (.slice ya1 ya3 ya4) (.bool false) (.slice ya2 ya5 ya6)
      have KT:=Q.Kept.put4 KT hgpb (.bool ya0) (.slice ya1 ya3 ya4) (.bool false) (.slice ya2 ya5 ya6)
      clear cpb0 cpb1 cpb2 cpb3 gpb0 gpb1 gpb2 gpb3 zpb
      unfold Q.put4 at epb epa tx ty KT
      generalize (((Ws10.setCell ⟨pb,0,none⟩ (.bool ya0)).setCell ⟨pb,1,none⟩ (.slice ya1 ya3 ya4)).setCell ⟨pb,2,none⟩ (.bool false)).setCell ⟨pb,3,none⟩ (.slice ya2 ya5 ya6) = Ws11 at epb epa tx ty KT hHeld ⊢
      refine wpAnyH_done (by kernel_rfl) ?_ _
      go_wp2_with fail
      go_meet
      case rel => exact ⟨pa,xa0,xa1,xa2,xa3,xa4,xa5,xa6,pb,ya0,ya1,ya2,ya3,ya4,ya5,ya6,rfl,rfl,KT,epa,epb,tx.rs,ty.rs⟩
     refine AllReadyH.cons rfl (fun K hK => ?_) ?_
     ·
      go_simp
      refine hK.out _ _ (sS.out _ (KT.alloc _)) (fun hHeld => ?_)
      clear hK K
      have zpa:=F.RRow.alloc Wd (.bool false) (.slice none 0 0) (.bool false) (.slice none 0 0)
      have hgpa:W7.heap.size≤Wd.heap.size:=KT.size
      have KT:=KT.alloc (.cells #[.bool false,.slice none 0 0,.bool false,.slice none 0 0] 29)
      obtain ⟨pa,hppa⟩:∃ p,p = Wd.heap.size:=⟨_,rfl⟩
      rw [← hppa] at zpa hgpa  ⊢
      generalize Wd.alloc (.cells #[.bool false,.slice none 0 0,.bool false,.slice none 0 0] 29) = Wa8 at zpa   KT hHeld ⊢
      clear hppa
      refine wpAnyH_ready (rs:=[3,9]) (by kernel_rfl) (by simp) ?_
      refine AllReadyH.cons rfl (fun K hK => ?_) ?_
      ·
       go_simp
       refine (line_any _ (HTG.out.1.kept KT) (own100 (HTG.out.2.1.kept KT)) (HAT.out.1.rs.kept KT) (by decide) HB1.out.1 HB1.out.2.1 HB1.out.2.2.1 HB1.out.2.2.2).mono ?_
       rintro e w8 ⟨hk8,vx,rfl,tx⟩
       obtain ⟨xa0,xa1,xa2,xa3,xa4,xa5,xa6,rfl⟩:=tx.shape
       refine hK.out _ _ (sS.out _ (KT.trans hk8)) (fun hHeld => ?_)
       clear hK K
       have zpa:=zpa.kept hk8
       have KT:=KT.trans hk8
       refine wpAnyH_ready (rs:=[7,9]) (by kernel_rfl) (by simp) ?_
       refine AllReadyH.cons rfl (fun K hK => ?_) ?_
       ·
        go_simp
        refine (line_any _ (HTP.out.1.kept KT) (own100 (HTP.out.2.1.kept KT)) (HAT.out.1.rs.kept KT) (by decide) HB2.out.1 HB2.out.2.1 HB2.out.2.2.1 HB2.out.2.2.2).mono ?_
        rintro e w9 ⟨hk9,vy,rfl,ty⟩
        obtain ⟨ya0,ya1,ya2,ya3,ya4,ya5,ya6,rfl⟩:=ty.shape
        refine hK.out _ _ (sS.out _ (KT.trans hk9)) (fun hHeld => ?_)
        clear hK K
        have zpa:=zpa.kept hk9
        have tx:=RT.kept tx hk9
        have KT:=KT.trans hk9
        refine wpAnyH_ready (rs:=[9]) (by kernel_rfl) (by simp) ?_
        refine AllReadyH.cons rfl (fun K hK => ?_) AllReadyH.nil
        go_simp
        refine hK.out _ _ (sS.out _ (KT.alloc _)) (fun hHeld => ?_)
        clear hK K
        have zpb:=F.RRow.alloc w9 (.bool false) (.slice none 0 0) (.bool false) (.slice none 0 0)
        have hgpb:W7.heap.size≤w9.heap.size:=KT.size
        have dpbpa:¬ (w9.heap.size = pa):=by have:=zpa.lt; omega
        have dpapb:¬ (pa = w9.heap.size):=by have:=zpa.lt; omega
        have zpa:=zpa.kept ((Kept.refl w9).alloc (.cells #[.bool false,.slice none 0 0,.bool false,.slice none 0 0] 29))
        have tx:=RT.kept tx ((Kept.refl w9).alloc (.cells #[.bool false,.slice none 0 0,.bool false,.slice none 0 0] 29))
        have ty:=RT.kept ty ((Kept.refl w9).alloc (.cells #[.bool false,.slice none 0 0,.bool false,.slice none 0 0] 29))
        have KT:=KT.alloc (.cells #[.bool false,.slice none 0 0,.bool false,.slice none 0 0] 29)
        obtain ⟨pb,hppb⟩:∃ p,p = w9.heap.size:=⟨_,rfl⟩
        rw [← hppb] at zpb hgpb dpbpa dpapb ⊢
        generalize w9.alloc (.cells #[.bool false,.slice none 0 0,.bool false,.slice none 0 0] 29) = Wa9 at zpb zpa tx ty KT hHeld ⊢
        clear hppb
        have cpa0:=zpa.c0
        have cpa1:=zpa.c1
        have cpa2:=zpa.c2
        have cpa3:=zpa.c3
        have gpa0:=zpa.fz 0
        have gpa1:=zpa.fz 1
        have gpa2:=zpa.fz 2
        have gpa3:=zpa.fz 3
        refine wpAnyH_ready (rs:=[10]) (by kernel_rfl) (by simp) ?_
        refine AllReadyH.cons rfl (fun K hK => ?_) AllReadyH.nil
        go_simp
        refine hK.out _ _ (sS.out _ (Q.Kept.put4 KT hgpa _ _ _ _)) (fun hHeld => ?_)
        clear hK K
        have epa:=rrow_put4 zpa (.bool xa0) (.slice xa1 xa3 xa4) (.bool false) (.slice xa2 xa5 xa6)
        have zpb:=Q.rrow_far zpb dpbpa (.bool xa0) (.slice xa1 xa3 xa4) (.bool false) (.slice xa2 xa5 xa6)
        have tx:=RT.put4 tx zpa (.bool xa0) (.slice xa1 xa3 xa4) (.bool false) (.slice xa2 xa5 xa6)
        have ty:=RT.put4 ty zpa (.bool xa0) (.slice xa1 xa3 xa4) (.bool false) (.slice xa2 xa5 xa6)
        have KT:=Q.Kept.put4 KT hgpa (.bool xa0) (.slice xa1 xa3 xa4) (.bool false) (.slice xa2 xa5 xa6)
        clear cpa0 cpa1 cpa2 cpa3 gpa0 gpa1 gpa2 gpa3 zpa
        unfold Q.put4 at epa zpb tx ty KT
        generalize (((Wa9.setCell ⟨pa,0,none⟩ (.bool xa0)).setCell ⟨pa,1,none⟩ (.slice xa1 xa3 xa4)).setCell ⟨pa,2,none⟩ (.bool false)).setCell ⟨pa,3,none⟩ (.slice xa2 xa5 xa6) = Ws10 at epa zpb tx ty KT hHeld ⊢
        have cpb0:=zpb.c0
        have cpb1:=zpb.c1
        have cpb2:=zpb.c2
        have cpb3:=zpb.c3
        have gpb0:=zpb.fz 0
        have gpb1:=zpb.fz 1
        have gpb2:=zpb.fz 2
        have gpb3:=zpb.fz 3
        refine wpAnyH_ready (rs:=[11]) (by kernel_rfl) (by simp) ?_
        refine AllReadyH.cons rfl (fun K hK => ?_) AllReadyH.nil
        go_simp
        refine hK.out _ _ (sS.out _ (Q.Kept.put4 KT hgpb _ _ _ _)) (fun hHeld => ?_)
        clear hK K
        have epb:=rrow_put4 zpb (.bool ya0) (.slice ya1 ya3 ya4) (.bool false) (.slice ya2 ya5 ya6)
        have epa:=Q.rrow_far epa dpapb (.bool ya0) (.slice ya1 ya3 ya4) (.bool false) (.slice ya2 ya5 ya6)
        have tx:=RT.put4 tx zpb (.bool ya0) (.slice ya1 ya3 ya4) (.bool false) (.slice ya2 ya5 ya6)
        have ty:=RT.put4 ty zpb (.bool ya0) (.slice ya1 ya3 ya4) (.bool false) (.slice ya2 ya5 ya6)
        have KT:=Q.Kept.put4 KT hgpb (.bool ya0) (.slice ya1 ya3 ya4) (.bool false) (.slice ya2 ya5 ya6)
        clear cpb0 cpb1 cpb2 cpb3 gpb0 gpb1 gpb2 gpb3 zpb
        unfold Q.put4 at epb epa tx ty KT
        generalize (((Ws10.setCell ⟨pb,0,none⟩ (.bool ya0)).setCell ⟨pb,1,none⟩ (.slice ya1 ya3 ya4)).setCell ⟨pb,2,none⟩ (.bool false)).setCell ⟨pb,3,none⟩ (.slice ya2 ya5 ya6) = Ws11 at epb epa tx ty KT hHeld ⊢
        refine wpAnyH_done (by kernel_rfl) ?_ _
        go_wp2_with fail
        go_meet
        case rel => exact ⟨pa,xa0,xa1,xa2,xa3,xa4,xa5,xa6,pb,ya0,ya1,ya2,ya3,ya4,ya5,ya6,rfl,rfl,KT,epa,epb,tx.rs,ty.rs⟩
       refine AllReadyH.cons rfl (fun K hK => ?_) AllReadyH.nil
       go_simp
       refine hK.out _ _ (sS.out _ (KT.alloc _)) (fun hHeld => ?_)
       clear hK K
       have zpb:=F.RRow.alloc w8 (.bool false) (.slice none 0 0) (.bool false) (.slice none 0 0)
       have hgpb:W7.heap.size≤w8.heap.size:=KT.size
       have dpbpa:¬ (w8.heap.size = pa):=by have:=zpa.lt; omega
       have dpapb:¬ (pa = w8.heap.size):=by have:=zpa.lt; omega
       have zpa:=zpa.kept ((Kept.refl w8).alloc (.cells #[.bool false,.slice none 0 0,.bool false,.slice none 0 0] 29))
       have tx:=RT.kept tx ((Kept.refl w8).alloc (.cells #[.bool false,.slice none 0 0,.bool false,.slice none 0 0] 29))
       have KT:=KT.alloc (.cells #[.bool false,.slice none 0 0,.bool false,.slice none 0 0] 29)
       obtain ⟨pb,hppb⟩:∃ p,p = w8.heap.size:=⟨_,rfl⟩
       rw [← hppb] at zpb hgpb dpbpa dpapb ⊢
       generalize w8.alloc (.cells #[.bool false,.slice none 0 0,.bool false,.slice none 0 0] 29) = Wa9 at zpb zpa tx KT hHeld ⊢
       clear hppb
       refine wpAnyH_ready (rs:=[7]) (by kernel_rfl) (by simp) ?_
       refine AllReadyH.cons rfl (fun K hK => ?_) AllReadyH.nil
       go_simp
       refine (line_any _ (HTP.out.1.kept KT) (own100 (HTP.out.2.1.kept KT)) (HAT.out.1.rs.kept KT) (by decide) HB2.out.1 HB2.out.2.1 HB2.out.2.2.1 HB2.out.2.2.2).mono ?_
       rintro e w9 ⟨hk9,vy,rfl,ty⟩
       obtain ⟨ya0,ya1,ya2,ya3,ya4,ya5,ya6,rfl⟩:=ty.shape
       refine hK.out _ _ (sS.out _ (KT.trans hk9)) (fun hHeld => ?_)
       clear hK K
       have zpa:=zpa.kept hk9
       have zpb:=zpb.kept hk9
       have tx:=RT.kept tx hk9
       have KT:=KT.trans hk9
       have cpa0:=zpa.c0
       have cpa1:=zpa.c1
       have cpa2:=zpa.c2
       have cpa3:=zpa.c3
       have gpa0:=zpa.fz 0
       have gpa1:=zpa.fz 1
       have gpa2:=zpa.fz 2
       have gpa3:=zpa.fz 3
       refine wpAnyH_ready (rs:=[10]) (by kernel_rfl) (by simp) ?_
       refine AllReadyH.cons rfl (fun K hK => ?_) AllReadyH.nil
       go_simp
       refine hK.out _ _ (sS.out _ (Q.Kept.put4 KT hgpa _ _ _ _)) (fun hHeld => ?_)
       clear hK K
       have epa:=rrow_put4 zpa (.bool xa0) (.slice xa1 xa3 xa4) (.bool false) (.slice xa2 xa5 xa6)
       have zpb:=Q.rrow_far zpb dpbpa (.bool xa0) (.slice xa1 xa3 xa4) (.bool false) (.slice xa2 xa5 xa6)
       have tx:=RT.put4 tx zpa (.bool xa0) (.slice xa1 xa3 xa4) (.bool false) (.slice xa2 xa5 xa6)
       have ty:=RT.put4 ty zpa (.bool xa0) (.slice xa1 xa3 xa4) (.bool false) (.slice xa2 xa5 xa6)
       have KT:=Q.Kept.put4 KT hgpa (.bool xa0) (.slice xa1 xa3 xa4) (.bool false) (.slice xa2 xa5 xa6)
       clear cpa0 cpa1 cpa2 cpa3 gpa0 gpa1 gpa2 gpa3 zpa
       unfold Q.put4 at epa zpb tx ty KT
       generalize (((w9.setCell ⟨pa,0,none⟩ (.bool xa0)).setCell ⟨pa,1,none⟩ (.slice xa1 xa3 xa4)).setCell ⟨pa,2,none⟩ (.bool false)).setCell ⟨pa,3,none⟩ (.slice xa2 xa5 xa6) = Ws10 at epa zpb tx ty KT hHeld ⊢
       have cpb0:=zpb.c0
       have cpb1:=zpb.c1
       have cpb2:=zpb.c2
       have cpb3:=zpb.c3
       have gpb0:=zpb.fz 0
       have gpb1:=zpb.fz 1
       have gpb2:=zpb.fz 2
       have gpb3:=zpb.fz 3
       refine wpAnyH_ready (rs:=[11]) (by kernel_rfl) (by simp) ?_
       refine AllReadyH.cons rfl (fun K hK => ?_) AllReadyH.nil
       go_simp
       refine hK.out _ _ (sS.out _ (Q.Kept.put4 KT hgpb _ _ _ _)) (fun hHeld => ?_)
       clear hK K
       have epb:=rrow_put4 zpb (.bool ya0) (.slice ya1 ya3 ya4) (.bool false) (.slice ya2 ya5 ya6)
       have epa:=Q.rrow_far epa dpapb (.bool ya0) (.slice ya1 ya3 ya4) (.bool false) (.slice ya2 ya5 ya6)
       have tx:=RT.put4 tx zpb (.bool ya0) (.slice ya1 ya3 ya4) (.bool false) (.slice ya2 ya5 ya6)
       have ty:=RT.put4 ty zpb (.bool ya0) (.slice ya1 ya3 ya4) (.bool false) (.slice ya2 ya5 ya6)
       have KT:=Q.Kept.put4 KT hgpb (.bool ya0) (.slice ya1 ya3 ya4) (.bool false) (.slice ya2 ya5 ya6)
       clear cpb0 cpb1 cpb2 cpb3 gpb0 gpb1 gpb2 gpb3 zpb
       unfold Q.put4 at epb epa tx ty KT
       generalize (((Ws10.setCell ⟨pb,0,none⟩ (.bool ya0)).setCell ⟨pb,1,none⟩ (.slice ya1 ya3 ya4)).setCell ⟨pb,2,none⟩ (.bool false)).setCell ⟨pb,3,none⟩ (.slice ya2 ya5 ya6) = Ws11 at epb epa tx ty KT hHeld ⊢
       refine wpAnyH_done (by kernel_rfl) ?_ _
       go_wp2_with fail
       go_meet
       case rel => exact ⟨pa,xa0,xa1,xa2,xa3,xa4,xa5,xa6,pb,ya0,ya1,ya2,ya3,ya4,ya5,ya6,rfl,rfl,KT,epa,epb,tx.rs,ty.rs⟩
      refine AllReadyH.cons rfl (fun K hK => ?_) AllReadyH.nil
      go_simp
      refine hK.out _ _ (sS.out _ (KT.alloc _)) (fun hHeld => ?_)
      clear hK K
      have zpb:=F.RRow.alloc Wa8 (.bool false) (.slice none 0 0) (.bool false) (.slice none 0 0)
      have hgpb:W7.heap.size≤Wa8.heap.size:=KT.size
      have dpbpa:¬ (Wa8.heap.size = pa):=by have:=zpa.lt; omega
      have dpapb:¬ (pa = Wa8.heap.size):=by have:=zpa.lt; omega
      have zpa:=zpa.kept ((Kept.refl Wa8).alloc (.cells #[.bool false,.slice none 0 0,.bool false,.slice none 0 0] 29))
      have KT:=KT.alloc (.cells #[.bool false,.slice none 0 0,.bool false,.slice none 0 0] 29)
      obtain ⟨pb,hppb⟩:∃ p,p = Wa8.heap.size:=⟨_,rfl⟩
      rw [← hppb] at zpb hgpb dpbpa dpapb ⊢
      generalize Wa8.alloc (.cells #[.bool false,.slice none 0 0,.bool false,.slice none 0 0] 29) = Wa9 at zpb zpa  KT hHeld ⊢
      clear hppb
      refine wpAnyH_ready (rs:=[3]) (by kernel_rfl) (by simp) ?_
      refine AllReadyH.cons rfl (fun K hK => ?_) AllReadyH.nil
      go_simp
      refine (line_any _ (HTG.out.1.kept KT) (own100 (HTG.out.2.1.kept KT)) (HAT.out.1.rs.kept KT) (by decide) HB1.out.1 HB1.out.2.1 HB1.out.2.2.1 HB1.out.2.2.2).mono ?_
      rintro e w8 ⟨hk8,vx,rfl,tx⟩
      obtain ⟨xa0,xa1,xa2,xa3,xa4,xa5,xa6,rfl⟩:=tx.shape
      refine hK.out _ _ (sS.out _ (KT.trans hk8)) (fun hHeld => ?_)
      clear hK K
      have zpa:=zpa.kept hk8
      have zpb:=zpb.kept hk8
      have KT:=KT.trans hk8
      refine wpAnyH_ready (rs:=[7]) (by kernel_rfl) (by simp) ?_
      refine AllReadyH.cons rfl (fun K hK => ?_) AllReadyH.nil
      go_simp
      refine (line_any _ (HTP.out.1.kept KT) (own100 (HTP.out.2.1.kept KT)) (HAT.out.1.rs.kept KT) (by decide) HB2.out.1 HB2.out.2.1 HB2.out.2.2.1 HB2.out.2.2.2).mono ?_
      rintro e w9 ⟨hk9,vy,rfl,ty⟩
      obtain ⟨ya0,ya1,ya2,ya3,ya4,ya5,ya6,rfl⟩:=ty.shape
      refine hK.out _ _ (sS.out _ (KT.trans hk9)) (fun hHeld => ?_)
      clear hK K
      have zpa:=zpa.kept hk9
      have zpb:=zpb.kept hk9
      have tx:=RT.kept tx hk9
      have KT:=KT.trans hk9
      have cpa0:=zpa.c0
      have cpa1:=zpa.c1
      have cpa2:=zpa.c2
      have cpa3:=zpa.c3
      have gpa0:=zpa.fz 0
      have gpa1:=zpa.fz 1
      have gpa2:=zpa.fz 2
      have gpa3:=zpa.fz 3
      refine wpAnyH_ready (rs:=[10]) (by kernel_rfl) (by simp) ?_
      refine AllReadyH.cons rfl (fun K hK => ?_) AllReadyH.nil
      go_simp
      refine hK.out _ _ (sS.out _ (Q.Kept.put4 KT hgpa _ _ _ _)) (fun hHeld => ?_)
      clear hK K
      have epa:=rrow_put4 zpa (.bool xa0) (.slice xa1 xa3 xa4) (.bool false) (.slice xa2 xa5 xa6)
      have zpb:=Q.rrow_far zpb dpbpa (.bool xa0) (.slice xa1 xa3 xa4) (.bool false) (.slice xa2 xa5 xa6)
      have tx:=RT.put4 tx zpa (.bool xa0) (.slice xa1 xa3 xa4) (.bool false) (.slice xa2 xa5 xa6)
      have ty:=RT.put4 ty zpa (.bool xa0) (.slice xa1 xa3 xa4) (.bool false) (.slice xa2 xa5 xa6)
      have KT:=Q.Kept.put4 KT hgpa (.bool xa0) (.slice xa1 xa3 xa4) (.bool false) (.slice xa2 xa5 xa6)
      clear cpa0 cpa1 cpa2 cpa3 gpa0 gpa1 gpa2 gpa3 zpa
      unfold Q.put4 at epa zpb tx ty KT
      generalize (((w9.setCell ⟨pa,0,none⟩ (.bool xa0)).setCell ⟨pa,1,none⟩ (.slice xa1 xa3 xa4)).setCell ⟨pa,2,none⟩ (.bool false)).setCell ⟨pa,3,none⟩ (.slice xa2 xa5 xa6) = Ws10 at epa zpb tx ty KT hHeld ⊢
      have cpb0:=zpb.c0
      have cpb1:=zpb.c1
      have cpb2:=zpb.c2
      have cpb3:=zpb.c3
      have gpb0:=zpb.fz 0
      have gpb1:=zpb.fz 1
      have gpb2:=zpb.fz 2
      have gpb3:=zpb.fz 3
      refine wpAnyH_ready (rs:=[11]) (by kernel_rfl) (by simp) ?_
      refine AllReadyH.cons rfl (fun K hK => ?_) AllReadyH.nil
      go_simp
      refine hK.out _ _ (sS.out _ (Q.Kept.put4 KT hgpb _ _ _ _)) (fun hHeld => ?_)
      clear hK K
      have epb:=rrow_put4 zpb (.bool ya0) (.slice ya1 ya3 ya4) (.bool false) (.slice ya2 ya5 ya6)
      have epa:=Q.rrow_far epa dpapb (.bool ya0) (.slice ya1 ya3 ya4) (.bool false) (.slice ya2 ya5 ya6)
      have tx:=RT.put4 tx zpb (.bool ya0) (.slice ya1 ya3 ya4) (.bool false) (.slice ya2 ya5 ya6)
      have ty:=RT.put4 ty zpb (.bool ya0) (.slice ya1 ya3 ya4) (.bool false) (.slice ya2 ya5 ya6)
      have KT:=Q.Kept.put4 KT hgpb (.bool ya0) (.slice ya1 ya3 ya4) (.bool false) (.slice ya2 ya5 ya6)
      clear cpb0 cpb1 cpb2 cpb3 gpb0 gpb1 gpb2 gpb3 zpb
      unfold Q.put4 at epb epa tx ty KT
      generalize (((Ws10.setCell ⟨pb,0,none⟩ (.bool ya0)).setCell ⟨pb,1,none⟩ (.slice ya1 ya3 ya4)).setCell ⟨pb,2,none⟩ (.bool false)).setCell ⟨pb,3,none⟩ (.slice ya2 ya5 ya6) = Ws11 at epb epa tx ty KT hHeld ⊢
      refine wpAnyH_done (by kernel_rfl) ?_ _
      go_wp2_with fail
      go_meet
      case rel => exact ⟨pa,xa0,xa1,xa2,xa3,xa4,xa5,xa6,pb,ya0,ya1,ya2,ya3,ya4,ya5,ya6,rfl,rfl,KT,epa,epb,tx.rs,ty.rs⟩
     refine AllReadyH.cons rfl (fun K hK => ?_) AllReadyH.nil
     go_simp
     refine hK.out _ _ (sS.out _ (KT.alloc _)) (fun hHeld => ?_)
     clear hK K
     have zpb:=F.RRow.alloc Wd (.bool false) (.slice none 0 0) (.bool false) (.slice none 0 0)
     have hgpb:W7.heap.size≤Wd.heap.size:=KT.size
     have KT:=KT.alloc (.cells #[.bool false,.slice none 0 0,.bool false,.slice none 0 0] 29)
     obtain ⟨pb,hppb⟩:∃ p,p = Wd.heap.size:=⟨_,rfl⟩
     rw [← hppb] at zpb hgpb  ⊢
     generalize Wd.alloc (.cells #[.bool false,.slice none 0 0,.bool false,.slice none 0 0] 29) = Wa9 at zpb   KT hHeld ⊢
     clear hppb
     refine wpAnyH_ready (rs:=[3,8]) (by kernel_rfl) (by simp) ?_
     refine AllReadyH.cons rfl (fun K hK => ?_) ?_
     ·
      go_simp
      refine (line_any _ (HTG.out.1.kept KT) (own100 (HTG.out.2.1.kept KT)) (HAT.out.1.rs.kept KT) (by decide) HB1.out.1 HB1.out.2.1 HB1.out.2.2.1 HB1.out.2.2.2).mono ?_
      rintro e w8 ⟨hk8,vx,rfl,tx⟩
      obtain ⟨xa0,xa1,xa2,xa3,xa4,xa5,xa6,rfl⟩:=tx.shape
      refine hK.out _ _ (sS.out _ (KT.trans hk8)) (fun hHeld => ?_)
      clear hK K
      have zpb:=zpb.kept hk8
      have KT:=KT.trans hk8
      refine wpAnyH_ready (rs:=[7,8]) (by kernel_rfl) (by simp) ?_
      refine AllReadyH.cons rfl (fun K hK => ?_) ?_
      ·
       go_simp
       refine (line_any _ (HTP.out.1.kept KT) (own100 (HTP.out.2.1.kept KT)) (HAT.out.1.rs.kept KT) (by decide) HB2.out.1 HB2.out.2.1 HB2.out.2.2.1 HB2.out.2.2.2).mono ?_
       rintro e w9 ⟨hk9,vy,rfl,ty⟩
       obtain ⟨ya0,ya1,ya2,ya3,ya4,ya5,ya6,rfl⟩:=ty.shape
       refine hK.out _ _ (sS.out _ (KT.trans hk9)) (fun hHeld => ?_)
       clear hK K
       have zpb:=zpb.kept hk9
       have tx:=RT.kept tx hk9
       have KT:=KT.trans hk9
       refine wpAnyH_ready (rs:=[8]) (by kernel_rfl) (by simp) ?_
       refine AllReadyH.cons rfl (fun K hK => ?_) AllReadyH.nil
       go_simp
       refine hK.out _ _ (sS.out _ (KT.alloc _)) (fun hHeld => ?_)
       clear hK K
       have zpa:=F.RRow.alloc w9 (.bool false) (.slice none 0 0) (.bool false) (.slice none 0 0)
       have hgpa:W7.heap.size≤w9.heap.size:=KT.size
       have dpapb:¬ (w9.heap.size = pb):=by have:=zpb.lt; omega
       have dpbpa:¬ (pb = w9.heap.size):=by have:=zpb.lt; omega
       have zpb:=zpb.kept ((Kept.refl w9).alloc (.cells #[.bool false,.slice none 0 0,.bool false,.slice none 0 0] 29))
       have tx:=RT.kept tx ((Kept.refl w9).alloc (.cells #[.bool false,.slice none 0 0,.bool false,.slice none 0 0] 29))
       have ty:=RT.kept ty ((Kept.refl w9).alloc (.cells #[.bool false,.slice none 0 0,.bool false,.slice none 0 0] 29))
       have KT:=KT.alloc (.cells #[.bool false,.slice none 0 0,.bool false,.slice none 0 0] 29)
       obtain ⟨pa,hppa⟩:∃ p,p = w9.heap.size:=⟨_,rfl⟩
       rw [← hppa] at zpa hgpa dpapb dpbpa ⊢
       generalize w9.alloc (.cells #[.bool false,.slice none 0 0,.bool false,.slice none 0 0] 29) = Wa8 at zpa zpb tx ty KT hHeld ⊢
       clear hppa
       have cpa0:=zpa.c0
       have cpa1:=zpa.c1
       have cpa2:=zpa.c2
       have cpa3:=zpa.c3
       have gpa0:=zpa.fz 0
       have gpa1:=zpa.fz 1
       have gpa2:=zpa.fz 2
       have gpa3:=zpa.fz 3
       refine wpAnyH_ready (rs:=[10]) (by kernel_rfl) (by simp) ?_
       refine AllReadyH.cons rfl (fun K hK => ?_) AllReadyH.nil
       go_simp
       refine hK.out _ _ (sS.out _ (Q.Kept.put4 KT hgpa _ _ _ _)) (fun hHeld => ?_)
       clear hK K
       have epa:=rrow_put4 zpa (.bool xa0) (.slice xa1 xa3 xa4) (.bool false) (.slice xa2 xa5 xa6)
       have zpb:=Q.rrow_far zpb dpbpa (.bool xa0) (.slice xa1 xa3 xa4) (.bool false) (.slice xa2 xa5 xa6)
       have tx:=RT.put4 tx zpa (.bool xa0) (.slice xa1 xa3 xa4) (.bool false) (.slice xa2 xa5 xa6)
       have ty:=RT.put4 ty zpa (.bool xa0) (.slice xa1 xa3 xa4) (.bool false) (.slice xa2 xa5 xa6)
       have KT:=Q.Kept.put4 KT hgpa (.bool xa0) (.slice xa1 xa3 xa4) (.bool false) (.slice xa2 xa5 xa6)
       clear cpa0 cpa1 cpa2 cpa3 gpa0 gpa1 gpa2 gpa3 zpa
       unfold Q.put4 at epa zpb tx ty KT
       generalize (((Wa8.setCell ⟨pa,0,none⟩ (.bool xa0)).setCell ⟨pa,1,none⟩ (.slice xa1 xa3 xa4)).setCell ⟨pa,2,none⟩ (.bool false)).setCell ⟨pa,3,none⟩ (.slice xa2 xa5 xa6) = Ws10 at epa zpb tx ty KT hHeld ⊢
       have cpb0:=zpb.c0
       have cpb1:=zpb.c1
       have cpb2:=zpb.c2
       have cpb3:=zpb.c3
       have gpb0:=zpb.fz 0
       have gpb1:=zpb.fz 1
       have gpb2:=zpb.fz 2
       have gpb3:=zpb.fz 3
       refine wpAnyH_ready (rs:=[11]) (by kernel_rfl) (by simp) ?_
       refine AllReadyH.cons rfl (fun K hK => ?_) AllReadyH.nil
       go_simp
       refine hK.out _ _ (sS.out _ (Q.Kept.put4 KT hgpb _ _ _ _)) (fun hHeld => ?_)
       clear hK K
       have epb:=rrow_put4 zpb (.bool ya0) (.slice ya1 ya3 ya4) (.bool false) (.slice ya2 ya5 ya6)
       have epa:=Q.rrow_far epa dpapb (.bool ya0) (.slice ya1 ya3 ya4) (.bool false) (.slice ya2 ya5 ya6)
       have tx:=RT.put4 tx zpb (.bool ya0) (.slice ya1 ya3 ya4) (.bool false) (.slice ya2 ya5 ya6)
       have ty:=RT.put4 ty zpb (.bool ya0) (.slice ya1 ya3 ya4) (.bool false) (.slice ya2 ya5 ya6)
       have KT:=Q.Kept.put4 KT hgpb (.bool ya0) (.slice ya1 ya3 ya4) (.bool false) (.slice ya2 ya5 ya6)
       clear cpb0 cpb1 cpb2 cpb3 gpb0 gpb1 gpb2 gpb3 zpb
       unfold Q.put4 at epb epa tx ty KT
       generalize (((Ws10.setCell ⟨pb,0,none⟩ (.bool ya0)).setCell ⟨pb,1,none⟩ (.slice ya1 ya3 ya4)).setCell ⟨pb,2,none⟩ (.bool false)).setCell ⟨pb,3,none⟩ (.slice ya2 ya5 ya6) = Ws11 at epb epa tx ty KT hHeld ⊢
       refine wpAnyH_done (by kernel_rfl) ?_ _
       go_wp2_with fail
       go_meet
       case rel => exact ⟨pa,xa0,xa1,xa2,xa3,xa4,xa5,xa6,pb,ya0,ya1,ya2,ya3,ya4,ya5,ya6,rfl,rfl,KT,epa,epb,tx.rs,ty.rs⟩
      refine AllReadyH.cons rfl (fun K hK => ?_) AllReadyH.nil
      go_simp
      refine hK.out _ _ (sS.out _ (KT.alloc _)) (fun hHeld => ?_)
      clear hK K
      have zpa:=F.RRow.alloc w8 (.bool false) (.slice none 0 0) (.bool false) (.slice none 0 0)
      have hgpa:W7.heap.size≤w8.heap.size:=KT.size
      have dpapb:¬ (w8.heap.size = pb):=by have:=zpb.lt; omega
      have dpbpa:¬ (pb = w8.heap.size):=by have:=zpb.lt; omega
      have zpb:=zpb.kept ((Kept.refl w8).alloc (.cells #[.bool false,.slice none 0 0,.bool false,.slice none 0 0] 29))
      have tx:=RT.kept tx ((Kept.refl w8).alloc (.cells #[.bool false,.slice none 0 0,.bool false,.slice none 0 0] 29))
      have KT:=KT.alloc (.cells #[.bool false,.slice none 0 0,.bool false,.slice none 0 0] 29)
      obtain ⟨pa,hppa⟩:∃ p,p = w8.heap.size:=⟨_,rfl⟩
      rw [← hppa] at zpa hgpa dpapb dpbpa ⊢
      generalize w8.alloc (.cells #[.bool false,.slice none 0 0,.bool false,.slice none 0 0] 29) = Wa8 at zpa zpb tx KT hHeld ⊢
      clear hppa
      refine wpAnyH_ready (rs:=[7]) (by kernel_rfl) (by simp) ?_
      refine AllReadyH.cons rfl (fun K hK => ?_) AllReadyH.nil
      go_simp
      refine (line_any _ (HTP.out.1.kept KT) (own100 (HTP.out.2.1.kept KT)) (HAT.out.1.rs.kept KT) (by decide) HB2.out.1 HB2.out.2.1 HB2.out.2.2.1 HB2.out.2.2.2).mono ?_
      rintro e w9 ⟨hk9,vy,rfl,ty⟩
      obtain ⟨ya0,ya1,ya2,ya3,ya4,ya5,ya6,rfl⟩:=ty.shape
      refine hK.out _ _ (sS.out _ (KT.trans hk9)) (fun hHeld => ?_)
      clear hK K
      have zpb:=zpb.kept hk9
      have zpa:=zpa.kept hk9
      have tx:=RT.kept tx hk9
      have KT:=KT.trans hk9
      have cpa0:=zpa.c0
      have cpa1:=zpa.c1
      have cpa2:=zpa.c2
      have cpa3:=zpa.c3
      have gpa0:=zpa.fz 0
      have gpa1:=zpa.fz 1
      have gpa2:=zpa.fz 2
      have gpa3:=zpa.fz 3
      refine wpAnyH_ready (rs:=[10]) (by kernel_rfl) (by simp) ?_
      refine AllReadyH.cons rfl (fun K hK => ?_) AllReadyH.nil
      go_simp
      refine hK.out _ _ (sS.out _ (Q.Kept.put4 KT hgpa _ _ _ _)) (fun hHeld => ?_)
      clear hK K
      have epa:=rrow_put4 zpa (.bool xa0) (.slice xa1 xa3 xa4) (.bool false) (.slice xa2 xa5 xa6)
      have zpb:=Q.rrow_far zpb dpbpa (.bool xa0) (.slice xa1 xa3 xa4) (.bool false) (.slice xa2 xa5 xa6)
      have tx:=RT.put4 tx zpa (.bool xa0) (.slice xa1 xa3 xa4) (.bool false) (.slice xa2 xa5 xa6)
      have ty:=RT.put4 ty zpa (.bool xa0) (.slice xa1 xa3 xa4) (.bool false) (.slice xa2 xa5 xa6)
      have KT:=Q.Kept.put4 KT hgpa (.bool xa0) (.slice xa1 xa3 xa4) (.bool false) (.slice xa2 xa5 xa6)
      clear cpa0 cpa1 cpa2 cpa3 gpa0 gpa1 gpa2 gpa3 zpa
      unfold Q.put4 at epa zpb tx ty KT
      generalize (((w9.setCell ⟨pa,0,none⟩ (.bool xa0)).setCell ⟨pa,1,none⟩ (.slice xa1 xa3 xa4)).setCell ⟨pa,2,none⟩ (.bool false)).setCell ⟨pa,3,none⟩ (.slice xa2 xa5 xa6) = Ws10 at epa zpb tx ty KT hHeld ⊢
      have cpb0:=zpb.c0
      have cpb1:=zpb.c1
      have cpb2:=zpb.c2
      have cpb3:=zpb.c3
      have gpb0:=zpb.fz 0
      have gpb1:=zpb.fz 1
      have gpb2:=zpb.fz 2
      have gpb3:=zpb.fz 3
      refine wpAnyH_ready (rs:=[11]) (by kernel_rfl) (by simp) ?_
      refine AllReadyH.cons rfl (fun K hK => ?_) AllReadyH.nil
      go_simp
      refine hK.out _ _ (sS.out _ (Q.Kept.put4 KT hgpb _ _ _ _)) (fun hHeld => ?_)
      clear hK K
      have epb:=rrow_put4 zpb (.bool ya0) (.slice ya1 ya3 ya4) (.bool false) (.slice ya2 ya5 ya6)
      have epa:=Q.rrow_far epa dpapb (.bool ya0) (.slice ya1 ya3 ya4) (.bool false) (.slice ya2 ya5 ya6)
      have tx:=RT.put4 tx zpb (.bool ya0) (.slice ya1 ya3 ya4) (.bool false) (.slice ya2 ya5 ya6)
      have ty:=RT.put4 ty zpb (.bool ya0) (.slice ya1 ya3 ya4) (.bool false) (.slice ya2 ya5 ya6)
      have KT:=Q.Kept.put4 KT hgpb (.bool ya0) (.slice ya1 ya3 ya4) (.bool false) (.slice ya2 ya5 ya6)
      clear cpb0 cpb1 cpb2 cpb3 gpb0 gpb1 gpb2 gpb3 zpb
      unfold Q.put4 at epb epa tx ty KT
      generalize (((Ws10.setCell ⟨pb,0,none⟩ (.bool ya0)).setCell ⟨pb,1,none⟩ (.slice ya1 ya3 ya4)).setCell ⟨pb,2,none⟩ (.bool false)).setCell ⟨pb,3,none⟩ (.slice ya2 ya5 ya6) = Ws11 at epb epa tx ty KT hHeld ⊢
      refine wpAnyH_done (by kernel_rfl) ?_ _
      go_wp2_with fail
      go_meet
      case rel => exact ⟨pa,xa0,xa1,xa2,xa3,xa4,xa5,xa6,pb,ya0,ya1,ya2,ya3,ya4,ya5,ya6,rfl,rfl,KT,epa,epb,tx.rs,ty.rs⟩
     refine AllReadyH.cons rfl (fun K hK => ?_) AllReadyH.nil
     go_simp
     refine hK.out _ _ (sS.out _ (KT.alloc _)) (fun hHeld => ?_)
     clear hK K
     have zpa:=F.RRow.alloc Wa9 (.bool false) (.slice none 0 0) (.bool false) (.slice none 0 0)
     have hgpa:W7.heap.size≤Wa9.heap.size:=KT.size
     have dpapb:¬ (Wa9.heap.size = pb):=by have:=zpb.lt; omega
     have dpbpa:¬ (pb = Wa9.heap.size):=by have:=zpb.lt; omega
     have zpb:=zpb.kept ((Kept.refl Wa9).alloc (.cells #[.bool false,.slice none 0 0,.bool false,.slice none 0 0] 29))
     have KT:=KT.alloc (.cells #[.bool false,.slice none 0 0,.bool false,.slice none 0 0] 29)
     obtain ⟨pa,hppa⟩:∃ p,p = Wa9.heap.size:=⟨_,rfl⟩
     rw [← hppa] at zpa hgpa dpapb dpbpa ⊢
     generalize Wa9.alloc (.cells #[.bool false,.slice none 0 0,.bool false,.slice none 0 0] 29) = Wa8 at zpa zpb  KT hHeld ⊢
     clear hppa
     refine wpAnyH_ready (rs:=[3]) (by kernel_rfl) (by simp) ?_
     refine AllReadyH.cons rfl (fun K hK => ?_) AllReadyH.nil
     go_simp
     refine (line_any _ (HTG.out.1.kept KT) (own100 (HTG.out.2.1.kept KT)) (HAT.out.1.rs.kept KT) (by decide) HB1.out.1 HB1.out.2.1 HB1.out.2.2.1 HB1.out.2.2.2).mono ?_
     rintro e w8 ⟨hk8,vx,rfl,tx⟩
     obtain ⟨xa0,xa1,xa2,xa3,xa4,xa5,xa6,rfl⟩:=tx.shape
     refine hK.out _ _ (sS.out _ (KT.trans hk8)) (fun hHeld => ?_)
     clear hK K
     have zpb:=zpb.kept hk8
     have zpa:=zpa.kept hk8
     have KT:=KT.trans hk8
     refine wpAnyH_ready (rs:=[7]) (by kernel_rfl) (by simp) ?_
     refine AllReadyH.cons rfl (fun K hK => ?_) AllReadyH.nil
     go_simp
     refine (line_any _ (HTP.out.1.kept KT) (own100 (HTP.out.2.1.kept KT)) (HAT.out.1.rs.kept KT) (by decide) HB2.out.1 HB2.out.2.1 HB2.out.2.2.1 HB2.out.2.2.2).mono ?_
     rintro e w9 ⟨hk9,vy,rfl,ty⟩
     obtain ⟨ya0,ya1,ya2,ya3,ya4,ya5,ya6,rfl⟩:=ty.shape
     refine hK.out _ _ (sS.out _ (KT.trans hk9)) (fun hHeld => ?_)
     clear hK K
     have zpb:=zpb.kept hk9
     have zpa:=zpa.kept hk9
     have tx:=RT.kept tx hk9
     have KT:=KT.trans hk9
     have cpa0:=zpa.c0
     have cpa1:=zpa.c1
     have cpa2:=zpa.c2
     have cpa3:=zpa.c3
     have gpa0:=zpa.fz 0
     have gpa1:=zpa.fz 1
     have gpa2:=zpa.fz 2
     have gpa3:=zpa.fz 3
     refine wpAnyH_ready (rs:=[10]) (by kernel_rfl) (by simp) ?_
     refine AllReadyH.cons rfl (fun K hK => ?_) AllReadyH.nil
     go_simp
     refine hK.out _ _ (sS.out _ (Q.Kept.put4 KT hgpa _ _ _ _)) (fun hHeld => ?_)
     clear hK K
     have epa:=rrow_put4 zpa (.bool xa0) (.slice xa1 xa3 xa4) (.bool false) (.slice xa2 xa5 xa6)
     have zpb:=Q.rrow_far zpb dpbpa (.bool xa0) (.slice xa1 xa3 xa4) (.bool false) (.slice xa2 xa5 xa6)
     have tx:=RT.put4 tx zpa (.bool xa0) (.slice xa1 xa3 xa4) (.bool false) (.slice xa2 xa5 xa6)
     have ty:=RT.put4 ty zpa (.bool xa0) (.slice xa1 xa3 xa4) (.bool false) (.slice xa2 xa5 xa6)
     have KT:=Q.Kept.put4 KT hgpa (.bool xa0) (.slice xa1 xa3 xa4) (.bool false) (.slice xa2 xa5 xa6)
     clear cpa0 cpa1 cpa2 cpa3 gpa0 gpa1 gpa2 gpa3 zpa
     unfold Q.put4 at epa zpb tx ty KT
     generalize (((w9.setCell ⟨pa,0,none⟩ (.bool xa0)).setCell ⟨pa,1,none⟩ (.slice xa1 xa3 xa4)).setCell ⟨pa,2,none⟩ (.bool false)).setCell ⟨pa,3,none⟩ (.slice xa2 xa5 xa6) = Ws10 at epa zpb tx ty KT hHeld ⊢
     have cpb0:=zpb.c0
     have cpb1:=zpb.c1
     have cpb2:=zpb.c2
     have cpb3:=zpb.c3
     have gpb0:=zpb.fz 0
     have gpb1:=zpb.fz 1
     have gpb2:=zpb.fz 2
     have gpb3:=zpb.fz 3
     refine wpAnyH_ready (rs:=[11]) (by kernel_rfl) (by simp) ?_
     refine AllReadyH.cons rfl (fun K hK => ?_) AllReadyH.nil
     go_simp
     refine hK.out _ _ (sS.out _ (Q.Kept.put4 KT hgpb _ _ _ _)) (fun hHeld => ?_)
     clear hK K
     have epb:=rrow_put4 zpb (.bool ya0) (.slice ya1 ya3 ya4) (.bool false) (.slice ya2 ya5 ya6)
     have epa:=Q.rrow_far epa dpapb (.bool ya0) (.slice ya1 ya3 ya4) (.bool false) (.slice ya2 ya5 ya6)
     have tx:=RT.put4 tx zpb (.bool ya0) (.slice ya1 ya3 ya4) (.bool false) (.slice ya2 ya5 ya6)
     have ty:=RT.put4 ty zpb (.bool ya0) (.slice ya1 ya3 ya4) (.bool false) (.slice ya2 ya5 ya6)
     have KT:=Q.Kept.put4 KT hgpb (.bool ya0) (.slice ya1 ya3 ya4) (.bool false) (.slice ya2 ya5 ya6)
     clear cpb0 cpb1 cpb2 cpb3 gpb0 gpb1 gpb2 gpb3 zpb
     unfold Q.put4 at epb epa tx ty KT
     generalize (((Ws10.setCell ⟨pb,0,none⟩ (.bool ya0)).setCell ⟨pb,1,none⟩ (.slice ya1 ya3 ya4)).setCell ⟨pb,2,none⟩ (.bool false)).setCell ⟨pb,3,none⟩ (.slice ya2 ya5 ya6) = Ws11 at epb epa tx ty KT hHeld ⊢
     refine wpAnyH_done (by kernel_rfl) ?_ _
     go_wp2_with fail
     go_meet
     case rel => exact ⟨pa,xa0,xa1,xa2,xa3,xa4,xa5,xa6,pb,ya0,ya1,ya2,ya3,ya4,ya5,ya6,rfl,rfl,KT,epa,epb,tx.rs,ty.rs⟩
    obtain ⟨pa,xa0,xa1,xa2,xa3,xa4,xa5,xa6,pb,ya0,ya1,ya2,ya3,ya4,ya5,ya6,rfl,rfl,HD⟩:=hcut
    have HKN:=hid' (show kn vs i = U x0 x1 * 10 ^ 27 by unfold kn; rw [← HX.out])
    have HXY:=hid' (show RS wc (.agg #[.bool ya0,.slice ya1 ya3 ya4,.bool false,.slice ya2 ya5 ya6]) (gn gs i * (U x0 x1 * 1000000000) * 10 ^ 36 + ownS gs vs i * ((10 ^ 18 * 1:Nat):Int)) (10 ^ 54 * (10 ^ 18 * 1)) by
     rw [← unbr_eq gs vs i (U x0 x1) HKN.out]
     exact HD.out.2.2.2.2)
    have HXX:=hid' HD.out.2.2.2.1
    have HPA:=hid' (And.intro HD.out.2.1 HD.out.2.2.1)
    have HAT:=hid' (And.intro (HAT.out.1.kept HD.out.1) (HAT.out.2.kept HD.out.1))
    have HK:=hid' (And.intro (HK.out.1.trans HD.out.1) (HK.out.2.kept HD.out.1))
    clear HD HV HTG HTP HB1 HB2
    obtain ⟨l,l',sl1,sl2,hR,hE⟩:=rs_open HAT.out.1.rs
    have HU:=hid' (And.intro sl1 (And.intro sl2 hR))
    have HSD:=hid' (side_at (N:=M.int t0 l) (D:=M.val l') (vs:=vs) hR.vpos HOA.out.2.2.1 (k:=i) (by have:=HL.out; omega) (by rw [HKN.out]; exact unbr_at hE))
    clear sl1 sl2 hR hE
    have q0:=HK.out.2.c0
    have q1:=HK.out.2.c1
    have q2:=HK.out.2.c2
    have q3:=HK.out.2.c3
    have u0:=HAT.out.2.c0
    have u1:=HAT.out.2.c1
    have u2:=HAT.out.2.c2
    have u3:=HAT.out.2.c3
    go_wp2_with fail
    refine (sideM_any s 100 a1 (some ⟨b,off,none⟩) n c m c' gs vs (i:Int) t0 false t1 t2 t3 t4 t5 t6 l l' _ hs (HS.out.1.kept HK.out.1) (HS.out.2.1.kept HK.out.1) hn hm HU.out.1 HU.out.2.1 (by have:=HU.out.2.2.ra.1; omega) (by have:=HU.out.2.2.rd.1; omega)).mono ?_
    rintro e wa ⟨hka,z,f,rfl,hSI⟩
    obtain ⟨rfl,hz⟩:=side_ok HRF.out.1 (by have:=HL.out; omega) HU.out.2.2 hSI
    rw [HSD.out.1] at hz
    subst hz
    have HU:=hid' (And.intro (HU.out.1.kept hka) (And.intro (HU.out.2.1.kept hka) HU.out.2.2))
    have HXX:=hid' (And.intro (HXX.out.kept hka) (HXY.out.kept hka))
    have HPA:=hid' (And.intro (HPA.out.1.kept hka) (HPA.out.2.kept hka))
    have HAT:=hid' (And.intro (HAT.out.1.kept hka) (HAT.out.2.kept hka))
    have HK:=hid' (And.intro (HK.out.1.trans hka) (HK.out.2.kept hka))
    clear hka hSI q0 q1 q2 q3 u0 u1 u2 u3 HXY
    have q0:=HK.out.2.c0
    have q1:=HK.out.2.c1
    have q2:=HK.out.2.c2
    have q3:=HK.out.2.c3
    have u0:=HAT.out.2.c0
    have u1:=HAT.out.2.c1
    have u2:=HAT.out.2.c2
    have u3:=HAT.out.2.c3
    go_wp2_with fail
    refine (sideM_any s 100 a1 (some ⟨b,off,none⟩) n c m c' gs vs ((i:Int) + 1) t0 false t1 t2 t3 t4 t5 t6 l l' _ hs (HS.out.1.kept HK.out.1) (HS.out.2.1.kept HK.out.1) hn hm HU.out.1 HU.out.2.1 (by have:=HU.out.2.2.ra.1; omega) (by have:=HU.out.2.2.rd.1; omega)).mono ?_
    rintro e wb ⟨hkb,z,f,rfl,hSI⟩
    rw [show (i:Int) + 1 = ((i + 1:Nat):Int) by omega] at hSI
    obtain ⟨rfl,hz⟩:=side_ok HRF.out.1 (by have:=HL.out; omega) HU.out.2.2 hSI
    rw [HSD.out.2] at hz
    subst hz
    have HXX:=hid' (And.intro (HXX.out.1.kept hkb) (HXX.out.2.kept hkb))
    have HPA:=hid' (And.intro (HPA.out.1.kept hkb) (HPA.out.2.kept hkb))
    have HK:=hid' (And.intro (HK.out.1.trans hkb) (HK.out.2.kept hkb))
    clear hkb hSI q0 q1 q2 q3 u0 u1 u2 u3
    have u0:=HPA.out.1.c0
    have u1:=HPA.out.1.c1
    have u2:=HPA.out.1.c2
    have u3:=HPA.out.1.c3
    have v0:=HPA.out.2.c0
    have v1:=HPA.out.2.c1
    have v2:=HPA.out.2.c2
    have v3:=HPA.out.2.c3
    go_wp2_with fail
    refine (same_rs _ HXX.out.1 HXX.out.2 (by decide)).mono ?_
    rintro e wd ⟨hkd,rfl⟩
    have HK:=hid' (And.intro (HK.out.1.trans hkd) (HK.out.2.kept hkd))
    clear hkd u0 u1 u2 u3 v0 v1 v2 v3
    go_wp2_with fail
    go_ret
    exact ⟨HK.out.1,rfl⟩
 ·
  go_wp2_with fail
  go_ret
  exact ⟨HK.out.1,rfl⟩
end V
end Go.Proofs.YthfbfbfambbkaaaGreatDoor
