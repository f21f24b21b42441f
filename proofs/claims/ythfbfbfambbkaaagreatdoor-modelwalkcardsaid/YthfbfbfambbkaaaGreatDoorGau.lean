/- shuntlaw05.awake. ModelWalk. -/
import Derived.Test.YthfbfbfambbkaaaGreatDoorGas
import Derived.Test.YthfbfbfambbkaaaGreatDoorOc3
import Derived.Test.YthfbfbfambbkaaaGreatDoorGat
import Derived.Test.YthfbfbfambbkaaaGreatDoorTxg
import Derived.Test.YthfbfbfambbkaaaGreatDoorGam
namespace Go.Proofs.YthfbfbfambbkaaaGreatDoor
open Go.RowKit
namespace V
open Q (hid' Row3 Row2 okN okN_bd Scl RQ)
theorem rowM (t:TypeId) (w:World) (xs:Array Value):(w.alloc (.cells xs t)).rowIs w.heap.size t xs.size (fun i => xs.getD i (.bool false)) :=
 World.rowIs_alloc w xs t _ (fun i hi => by simp [Array.getD,hi])
theorem rt_is {B:Nat} {w:World} {v:Value} {A N':Int} {S D':Nat} (h:RT B w v A S) (hS:0 < S) (hD:0 < D') (hc:Nat.gcd N'.natAbs D' = 1) (he:N' * (S:Int) = A * D'):RQ B w v N' D':=by
 obtain ⟨N,D,q,e⟩:=h
 have hl:=q.low
 have key:N * (D':Int) = N' * D:=by
  apply Int.eq_of_mul_eq_mul_right (show (S:Int) ≠ 0 by omega)
  calc N * D' * S = N * S * D':=Int.mul_right_comm _ _ _
   _ = A * D * D':=by rw [e]
   _ = A * D' * D:=Int.mul_right_comm _ _ _
   _ = N' * S * D:=by rw [he]
   _ = N' * D * S:=Int.mul_right_comm _ _ _
 have kn:=congrArg Int.natAbs key
 rw [Int.natAbs_mul,Int.natAbs_mul,Int.natAbs_natCast,Int.natAbs_natCast] at kn
 have d1:D ∣ D':=(Nat.Coprime.symm hl.2).dvd_of_dvd_mul_left (by rw [kn]; exact Nat.dvd_mul_left _ _)
 have d2:D' ∣ D:=(Nat.Coprime.symm (show Nat.Coprime N'.natAbs D' from hc)).dvd_of_dvd_mul_left (by rw [← kn]; exact Nat.dvd_mul_left _ _)
 have eD:D = D':=Nat.dvd_antisymm d1 d2
 subst eD
 have eN:N = N':=Int.eq_of_mul_eq_mul_right (show (D:Int) ≠ 0 by omega) key
 subst eN
 exact q
set_option maxRecDepth 100000 in
set_option maxHeartbeats 8000000 in
theorem awakeM_any (w:World) (ht:Tab w):Calls Tryz.prog 7 #[] w fun e w' => Kept w w'∧e = .returned (.bool true):=by
 have HT:=hid' ht
 clear ht
 go_enter Tryz.func7,Tryz.ntmps7
 go_upto_region 2 with fail
 have hK:=((Kept.refl w).alloc (.cells #[.int .i64 1,.int .i64 (-6),.int .i64 1,.int .i64 (-1)] 48)).alloc (.cells #[.int .i64 7,.int .i64 (-1)] 48) |>.alloc (.cells #[.string ⟨#[100]⟩,.int .u8 100,.slice (some ⟨w.heap.size,0,none⟩) 2 2,.slice (some ⟨w.heap.size + 1,0,none⟩) 1 1] 24)
 have r1:=(rowM 48 w #[.int .i64 1,.int .i64 (-6),.int .i64 1,.int .i64 (-1)]).of_block (((Kept.refl _).alloc (.cells #[.int .i64 7,.int .i64 (-1)] 48)).block w.heap.size (rowM 48 w #[.int .i64 1,.int .i64 (-6),.int .i64 1,.int .i64 (-1)]).lt)
 have r2:=rowM 48 (w.alloc (.cells #[.int .i64 1,.int .i64 (-6),.int .i64 1,.int .i64 (-1)] 48)) #[.int .i64 7,.int .i64 (-1)]
 rw [World.size_alloc] at r2
 have hR:=Row4.alloc 24 ((w.alloc (.cells #[.int .i64 1,.int .i64 (-6),.int .i64 1,.int .i64 (-1)] 48)).alloc (.cells #[.int .i64 7,.int .i64 (-1)] 48)) (.string ⟨#[100]⟩) (.int .u8 100) (.slice (some ⟨w.heap.size,0,none⟩) 2 2) (.slice (some ⟨w.heap.size + 1,0,none⟩) 1 1)
 simp only [World.size_alloc] at hR
 have hK3:=(Kept.refl ((w.alloc (.cells #[.int .i64 1,.int .i64 (-6),.int .i64 1,.int .i64 (-1)] 48)).alloc (.cells #[.int .i64 7,.int .i64 (-1)] 48))).alloc (.cells #[.string ⟨#[100]⟩,.int .u8 100,.slice (some ⟨w.heap.size,0,none⟩) 2 2,.slice (some ⟨w.heap.size + 1,0,none⟩) 1 1] 24)
 have hG:NSl ((w.alloc (.cells #[.int .i64 1,.int .i64 (-6),.int .i64 1,.int .i64 (-1)] 48)).alloc (.cells #[.int .i64 7,.int .i64 (-1)] 48)) (.slice (some ⟨w.heap.size,0,none⟩) 2 2) [((1:Int),(-6:Int)),(1,-1)]:=⟨_,2,rfl,fun _ => ⟨w.heap.size,0,rfl,r1.lt,fun j hj => by
  match j,hj with
  | 0,_ => exact ⟨r1.cell (i:=0) (show 0 < 4 by decide),r1.cell (i:=1) (show 1 < 4 by decide)⟩
  | 1,_ => exact ⟨r1.cell (i:=2) (show 2 < 4 by decide),r1.cell (i:=3) (show 3 < 4 by decide)⟩⟩⟩
 have hV:NSl ((w.alloc (.cells #[.int .i64 1,.int .i64 (-6),.int .i64 1,.int .i64 (-1)] 48)).alloc (.cells #[.int .i64 7,.int .i64 (-1)] 48)) (.slice (some ⟨w.heap.size + 1,0,none⟩) 1 1) [((7:Int),(-1:Int))]:=⟨_,1,rfl,fun _ => ⟨w.heap.size + 1,0,rfl,r2.lt,fun j hj => by
  match j,hj with
  | 0,_ => exact ⟨r2.cell (i:=0) (show 0 < 2 by decide),r2.cell (i:=1) (show 1 < 2 by decide)⟩⟩⟩
 have hG:=hG.kept hK3
 have hV:=hV.kept hK3
 clear r1 r2 hK3
 generalize ((w.alloc (.cells #[.int .i64 1,.int .i64 (-6),.int .i64 1,.int .i64 (-1)] 48)).alloc (.cells #[.int .i64 7,.int .i64 (-1)] 48)).alloc (.cells #[.string ⟨#[100]⟩,.int .u8 100,.slice (some ⟨w.heap.size,0,none⟩) 2 2,.slice (some ⟨w.heap.size + 1,0,none⟩) 1 1] 24) = W at hK hR hG hV ⊢
 obtain ⟨p3,hp3⟩:∃ p,p = w.heap.size + 1 + 1:=⟨_,rfl⟩
 rw [← hp3] at hR ⊢
 obtain ⟨p2,hp2⟩:∃ p,p = w.heap.size + 1:=⟨_,rfl⟩
 rw [← hp2] at hR hV ⊢
 obtain ⟨p1,hp1⟩:∃ p,p = w.heap.size:=⟨_,rfl⟩
 rw [← hp1] at hR hG ⊢
 clear hp1 hp2 hp3
 have HK:=hid' (And.intro hK hR)
 have HN:=hid' (And.intro hG hV)
 have q0:=hR.c0
 have q1:=hR.c1
 have q2:=hR.c2
 have q3:=hR.c3
 clear hK hR hG hV
 go_wp2_with fail
 refine (partM_any ⟨#[100]⟩ 100 _ _ 2 2 1 1 [((1:Int),(-6:Int)),(1,-1)] [((7:Int),(-1:Int))] 1 _ (by decide) HN.out.1 HN.out.2 (by decide) (by decide)).mono ?_
 rintro e w1 ⟨hk1,hP⟩
 rcases hP with ⟨h0,_⟩ | ⟨_,u,v,rfl,ru,rv⟩
 ·
  exact absurd (show refM [100] 100 [((1:Int),(-6:Int)),(1,-1)] [((7:Int),(-1:Int))] 1 = 0 by kernel_rfl) h0
 have ru:=rt_is (N':=1) (D':=10) ru (by decide) (by decide) (by decide) (by decide +kernel)
 have rv:=rt_is (N':=-69999300) (D':=1) rv (by decide) (by decide) (by decide) (by decide +kernel)
 obtain ⟨g0,g1,g2,g3,g4,g5,g6,gl,gl',rfl,gn1,gn2,gr,gi,gv⟩:=ru
 obtain ⟨c0,c1,c2,c3,c4,c5,c6,cl,cl',rfl,cn1,cn2,cr,ci,cv⟩:=rv
 obtain ⟨_,rfl⟩:=F.one_limb (x:=10) (gr.rd.right gn2.sl.1) (by rw [show M.int false gl' = (M.val gl':Int) by simp [M.int],gv]) (by decide) (by decide)
 obtain ⟨rfl,rfl⟩:=F.one_limb' (x:=69999300) (cr.ra.right cn1.sl.1) (by rw [ci]; rfl) (by decide) (by decide)
 have HGC:=hid' (And.intro gn2.sl (And.intro cn1.sl cr.ra))
 have HK:=hid' (And.intro (HK.out.1.trans hk1) (HK.out.2.kept hk1))
 have HN:=hid' (And.intro (HN.out.1.kept hk1) (HN.out.2.kept hk1))
 clear hk1 q0 q1 q2 q3 gn1 gn2 gr gi gv cn1 cn2 cr ci cv
 go_upto_region 3 with fail
 have hG1:=(F.RRow.alloc w1 (.bool g0) (.slice g1 g3 g4) (.bool false) (.slice g2 g5 g6)).kept ((Kept.refl (w1.alloc (.cells #[.bool g0,.slice g1 g3 g4,.bool false,.slice g2 g5 g6] 29))).alloc (.cells #[.bool true,.slice c1 c3 c4,.bool false,.slice c2 c5 c6] 29))
 have hC1:=F.RRow.alloc (w1.alloc (.cells #[.bool g0,.slice g1 g3 g4,.bool false,.slice g2 g5 g6] 29)) (.bool true) (.slice c1 c3 c4) (.bool false) (.slice c2 c5 c6)
 have kA:=(((Kept.refl w1).alloc (.cells #[.bool g0,.slice g1 g3 g4,.bool false,.slice g2 g5 g6] 29)).alloc (.cells #[.bool true,.slice c1 c3 c4,.bool false,.slice c2 c5 c6] 29))
 simp only [World.size_alloc] at hC1
 generalize (w1.alloc (.cells #[.bool g0,.slice g1 g3 g4,.bool false,.slice g2 g5 g6] 29)).alloc (.cells #[.bool true,.slice c1 c3 c4,.bool false,.slice c2 c5 c6] 29) = W1 at hG1 hC1 kA ⊢
 obtain ⟨pc,hqpc⟩:∃ q,q = w1.heap.size + 1:=⟨_,rfl⟩
 rw [← hqpc] at hC1 ⊢
 obtain ⟨pg,hqpg⟩:∃ q,q = w1.heap.size:=⟨_,rfl⟩
 rw [← hqpg] at hG1 ⊢
 clear hqpg hqpc
 have HK:=hid' (And.intro (HK.out.1.trans kA) (HK.out.2.kept kA))
 have HN:=hid' (And.intro (HN.out.1.kept kA) (HN.out.2.kept kA))
 have HGC:=hid' (And.intro (HGC.out.1.kept kA) (And.intro (HGC.out.2.1.kept kA) HGC.out.2.2))
 have HB:=hid' (And.intro hG1 hC1)
 clear kA hG1 hC1
 go_wp2_with fail
 refine (of_any 700000001 _ (by omega) (by omega)).mono ?_
 rintro e w2 ⟨hk2,s2,a2,n2,k2,l2,rfl,hn2,hr2,hv2⟩
 obtain ⟨rfl,rfl⟩:=F.one_limb (x:=700000001) hr2 hv2 (by decide) (by decide)
 have HA2:=hid' (And.intro hn2.sl (R.of_right hr2))
 have HK:=hid' (And.intro (HK.out.1.trans hk2) (HK.out.2.kept hk2))
 have HN:=hid' (And.intro (HN.out.1.kept hk2) (HN.out.2.kept hk2))
 have HGC:=hid' (And.intro (HGC.out.1.kept hk2) (And.intro (HGC.out.2.1.kept hk2) HGC.out.2.2))
 have HB:=hid' (And.intro (HB.out.1.kept hk2) (HB.out.2.kept hk2))
 clear hk2
 clear hn2 hr2 hv2
 go_wp2_with fail
 refine (of_any 1 _ (by omega) (by omega)).mono ?_
 rintro e w3 ⟨hk3,s3,a3,n3,k3,l3,rfl,hn3,hr3,hv3⟩
 obtain ⟨rfl,rfl⟩:=F.one_limb (x:=1) hr3 hv3 (by decide) (by decide)
 have HA2:=hid' (And.intro (HA2.out.1.kept hk3) HA2.out.2)
 have HA3:=hid' (And.intro hn3.sl (R.of_right hr3))
 have HK:=hid' (And.intro (HK.out.1.trans hk3) (HK.out.2.kept hk3))
 have HN:=hid' (And.intro (HN.out.1.kept hk3) (HN.out.2.kept hk3))
 have HGC:=hid' (And.intro (HGC.out.1.kept hk3) (And.intro (HGC.out.2.1.kept hk3) HGC.out.2.2))
 have HB:=hid' (And.intro (HB.out.1.kept hk3) (HB.out.2.kept hk3))
 clear hk3
 clear hn3 hr3 hv3
 go_wp2_with fail
 refine (F.Make_ok false false a2 a3 n2 k2 n3 k3 [700000001] [1] _ HA2.out.1 HA3.out.1 HA2.out.2 HA3.out.2 (by decide)).mono ?_
 rintro e w4 ⟨hk4,v,X,Y,rfl,hRN,gd,hg1,hg2,hg3,hg4⟩
 have hgd:gd = 1:=by
  have e1:gd.natAbs = 1:=by rw [hg1]; decide
  have e2:¬ gd < 0:=fun h => absurd (hg4.1 h) (by decide)
  omega
 subst hgd
 obtain ⟨t0,t1,t3,t4,tl,tn,t2,t5,t6,tl',rfl,tn1,tr1,ti1,tn2,tr2,ti2,tR⟩:=hRN
 obtain ⟨rfl,rfl⟩:=F.one_limb (x:=700000001) tr1 (by rw [ti1]; rw [Int.mul_one] at hg2; rw [hg2]; rfl) (by decide) (by decide)
 obtain ⟨rfl,rfl⟩:=F.one_limb (x:=1) tr2 (by rw [ti2]; rw [Int.mul_one] at hg3; rw [hg3]; rfl) (by decide) (by decide)
 have HU:=hid' (And.intro tn1.sl (And.intro tn2.sl tR))
 have HK:=hid' (And.intro (HK.out.1.trans hk4) (HK.out.2.kept hk4))
 have HN:=hid' (And.intro (HN.out.1.kept hk4) (HN.out.2.kept hk4))
 have HGC:=hid' (And.intro (HGC.out.1.kept hk4) (And.intro (HGC.out.2.1.kept hk4) HGC.out.2.2))
 have HB:=hid' (And.intro (HB.out.1.kept hk4) (HB.out.2.kept hk4))
 clear hk4
 clear HA2 HA3 tn1 tn2 tr1 tr2 ti1 ti2 tR hg1 hg2 hg3 hg4
 go_upto_region 4 with fail
 have hU1:=F.RRow.alloc w4 (.bool false) (.slice t1 t3 t4) (.bool false) (.slice t2 t5 t6)
 have kA:=((Kept.refl w4).alloc (.cells #[.bool false,.slice t1 t3 t4,.bool false,.slice t2 t5 t6] 29))
 generalize w4.alloc (.cells #[.bool false,.slice t1 t3 t4,.bool false,.slice t2 t5 t6] 29) = W4 at hU1 kA ⊢
 obtain ⟨pu,hqpu⟩:∃ q,q = w4.heap.size:=⟨_,rfl⟩
 rw [← hqpu] at hU1 ⊢
 have HU:=hid' (And.intro (HU.out.1.kept kA) (And.intro (HU.out.2.1.kept kA) (And.intro HU.out.2.2 hU1)))
 have HK:=hid' (And.intro (HK.out.1.trans kA) (HK.out.2.kept kA))
 have HN:=hid' (And.intro (HN.out.1.kept kA) (HN.out.2.kept kA))
 have HGC:=hid' (And.intro (HGC.out.1.kept kA) (And.intro (HGC.out.2.1.kept kA) HGC.out.2.2))
 have HB:=hid' (And.intro (HB.out.1.kept kA) (HB.out.2.kept kA))
 clear kA
 clear hqpu hU1
 have q0:=HK.out.2.c0
 have q1:=HK.out.2.c1
 have q2:=HK.out.2.c2
 have q3:=HK.out.2.c3
 have u0:=HU.out.2.2.2.c0
 have u1:=HU.out.2.2.2.c1
 have u2:=HU.out.2.2.2.c2
 have u3:=HU.out.2.2.2.c3
 go_wp2_with fail
 refine (sideM_any ⟨#[100]⟩ 100 _ _ 2 2 1 1 [((1:Int),(-6:Int)),(1,-1)] [((7:Int),(-1:Int))] 0 false false _ _ _ _ _ _ [700000001] [1] _ (by decide) HN.out.1 HN.out.2 (by decide) (by decide) HU.out.1 HU.out.2.1 (by decide) (by decide)).mono ?_
 rintro e w5 ⟨hk5,z,f,rfl,hS⟩
 obtain ⟨rfl,hz⟩:=side_ok (s:=[100]) (k:=100) (gs:=[((1:Int),(-6:Int)),(1,-1)]) (q:=0) (by kernel_rfl) (by decide) HU.out.2.2.1 hS
 have hz':z = 1:=by rw [hz]; kernel_rfl
 subst hz'
 have HU:=hid' (And.intro (HU.out.1.kept hk5) (And.intro (HU.out.2.1.kept hk5) (And.intro HU.out.2.2.1 (HU.out.2.2.2.kept hk5))))
 have HK:=hid' (And.intro (HK.out.1.trans hk5) (HK.out.2.kept hk5))
 have HN:=hid' (And.intro (HN.out.1.kept hk5) (HN.out.2.kept hk5))
 have HGC:=hid' (And.intro (HGC.out.1.kept hk5) (And.intro (HGC.out.2.1.kept hk5) HGC.out.2.2))
 have HB:=hid' (And.intro (HB.out.1.kept hk5) (HB.out.2.kept hk5))
 clear hk5
 clear q0 q1 q2 q3 u0 u1 u2 u3 hS hz
 have q0:=HK.out.2.c0
 have q1:=HK.out.2.c1
 have q2:=HK.out.2.c2
 have q3:=HK.out.2.c3
 have u0:=HU.out.2.2.2.c0
 have u1:=HU.out.2.2.2.c1
 have u2:=HU.out.2.2.2.c2
 have u3:=HU.out.2.2.2.c3
 go_wp2_with fail
 refine (findM_any ⟨#[100]⟩ 100 _ _ 2 2 1 1 [((1:Int),(-6:Int)),(1,-1)] [((7:Int),(-1:Int))] false false _ _ _ _ _ _ [700000001] [1] _ (by decide) HN.out.1 HN.out.2 (by decide) (by decide) HU.out.1 HU.out.2.1 (by decide) (by decide)).mono ?_
 rintro e w6 ⟨hk6,z,f,rfl,hS⟩
 obtain ⟨rfl,hz⟩:=find_ok (by kernel_rfl) HU.out.2.2.1 hS
 have hz':z = 1:=by rw [hz]; kernel_rfl
 subst hz'
 have HK:=hid' (And.intro (HK.out.1.trans hk6) (HK.out.2.kept hk6))
 have HN:=hid' (And.intro (HN.out.1.kept hk6) (HN.out.2.kept hk6))
 have HGC:=hid' (And.intro (HGC.out.1.kept hk6) (And.intro (HGC.out.2.1.kept hk6) HGC.out.2.2))
 have HB:=hid' (And.intro (HB.out.1.kept hk6) (HB.out.2.kept hk6))
 clear hk6
 clear q0 q1 q2 q3 u0 u1 u2 u3 hS hz HU
 have f0:=HB.out.2.c0
 have f1:=HB.out.2.c1
 go_wp2_with fail
 refine (text_any true _ [69999300] _ HGC.out.2.1 HGC.out.2.2 (HT.out.kept HK.out.1)).mono ?_
 rintro e w7 ⟨hk7,D,hpl,_,hdv,rfl⟩
 have hD:D = [54,57,57,57,57,51,48,48]:=by rw [plain_dec hpl,hdv]; kernel_rfl
 subst hD
 rw [show (tx true [54,57,57,57,57,51,48,48]).toArray = #[45,54,57,57,57,57,51,48,48] from rfl]
 have HK:=hid' (And.intro (HK.out.1.trans hk7) (HK.out.2.kept hk7))
 have HN:=hid' (And.intro (HN.out.1.kept hk7) (HN.out.2.kept hk7))
 have HGC:=hid' (And.intro (HGC.out.1.kept hk7) (And.intro (HGC.out.2.1.kept hk7) HGC.out.2.2))
 have HB:=hid' (And.intro (HB.out.1.kept hk7) (HB.out.2.kept hk7))
 clear hk7
 clear f0 f1 hpl hdv
 obtain ⟨e5,_,gb,go,rfl,hcell⟩:=F.Sl.one HGC.out.1
 subst e5
 have q0:=HK.out.2.c0
 have q1:=HK.out.2.c1
 have q2:=HK.out.2.c2
 have q3:=HK.out.2.c3
 have d3:=HB.out.1.c3
 go_wp2_with fail
 refine (validM_any ⟨#[100]⟩ 100 _ _ 2 2 1 1 [((1:Int),(-6:Int)),(1,-1)] [((7:Int),(-1:Int))] _ (by decide) HN.out.1 HN.out.2 (by decide) (by decide)).mono ?_
 rintro e w8 ⟨hk8,rfl⟩
 rw [show okM (⟨#[100]⟩:ByteArray).data.toList 100 [((1:Int),(-6:Int)),(1,-1)] [((7:Int),(-1:Int))] = true by kernel_rfl]
 clear hcell d3 q0 q1 q2 q3
 have HK:=hid' (And.intro (HK.out.1.trans hk8) (HK.out.2.kept hk8))
 have HN:=hid' (And.intro (HN.out.1.kept hk8) (HN.out.2.kept hk8))
 have HGC:=hid' (And.intro (HGC.out.1.kept hk8) (And.intro (HGC.out.2.1.kept hk8) HGC.out.2.2))
 have HB:=hid' (And.intro (HB.out.1.kept hk8) (HB.out.2.kept hk8))
 clear hk8
 have q0:=HK.out.2.c0
 have q1:=HK.out.2.c1
 have q2:=HK.out.2.c2
 have q3:=HK.out.2.c3
 go_wp2_with fail
 refine (countM_any ⟨#[100]⟩ 100 _ _ 2 2 1 1 [((1:Int),(-6:Int)),(1,-1)] [((7:Int),(-1:Int))] _ (by decide) HN.out.1 HN.out.2 (by decide) (by decide)).mono ?_
 rintro e w9 ⟨hk9,rfl⟩
 rw [show okM (⟨#[100]⟩:ByteArray).data.toList 100 [((1:Int),(-6:Int)),(1,-1)] [((7:Int),(-1:Int))] = true by kernel_rfl]
 clear q0 q1 q2 q3
 have HK:=hid' (And.intro (HK.out.1.trans hk9) (HK.out.2.kept hk9))
 have HN:=hid' (And.intro (HN.out.1.kept hk9) (HN.out.2.kept hk9))
 have HGC:=hid' (And.intro (HGC.out.1.kept hk9) (And.intro (HGC.out.2.1.kept hk9) HGC.out.2.2))
 have HB:=hid' (And.intro (HB.out.1.kept hk9) (HB.out.2.kept hk9))
 clear hk9
 go_wp2_with fail
 refine (countM_any ⟨#[]⟩ 0 none none 0 0 0 0 [] [] _ (by decide) ⟨none,0,rfl,fun h => absurd h (by decide)⟩ ⟨none,0,rfl,fun h => absurd h (by decide)⟩ (by decide) (by decide)).mono ?_
 rintro e wa ⟨hka,rfl⟩
 rw [show okM (⟨#[]⟩:ByteArray).data.toList 0 [] [] = false by kernel_rfl]
 have HK:=hid' (And.intro (HK.out.1.trans hka) (HK.out.2.kept hka))
 have HN:=hid' (And.intro (HN.out.1.kept hka) (HN.out.2.kept hka))
 have HGC:=hid' (And.intro (HGC.out.1.kept hka) (And.intro (HGC.out.2.1.kept hka) HGC.out.2.2))
 have HB:=hid' (And.intro (HB.out.1.kept hka) (HB.out.2.kept hka))
 clear hka
 go_wp2_with fail
 go_ret
 exact ⟨HK.out.1,rfl⟩
end V
end Go.Proofs.YthfbfbfambbkaaaGreatDoor

namespace Go.Proofs.YthfbfbfambbkaaaGreatDoor
open Go.RowKit
namespace V
open Q (hid' Row3 Row2 okN okN_bd Scl)
set_option maxRecDepth 100000 in
set_option maxHeartbeats 8000000 in
theorem walkM_any (s:ByteArray) (k:Int) (a1 a2:Option Addr) (n c m c':Nat) (gs vs:List (Int × Int)) (i':Int) (sg nA:Bool) (b1 b2:Option Addr) (k1 c1 k2 c2:Nat) (an ad:List Nat) (w:World) (ht:Tab w) (hs:s.size≤9223372036854775807) (h1:NSl w (.slice a1 n c) gs) (h2:NSl w (.slice a2 m c') vs) (hn:n≤4611686018427387903) (hm:m≤4611686018427387903)
  (ha:Sl w (.slice b1 k1 c1) an) (had:Sl w (.slice b2 k2 c2) ad) (hla:an.length≤9223372036854775807) (hld:ad.length≤9223372036854775807) (hk1:k1≤4611686018427387903) (hk2:k2≤4611686018427387903) :
  Calls Tryz.prog 4 #[.agg #[.string s,.int .u8 k,.slice a1 n c,.slice a2 m c'],.int .i64 i',.agg #[.bool sg,.slice b1 k1 c1,.bool nA,.slice b2 k2 c2]] w fun e w' => Kept w w'∧e = .returned (.bool true):=by
 have HS:=hid' (And.intro h1 (And.intro h2 (And.intro ha (And.intro had (And.intro hla (And.intro hld ht))))))
 have HL0:=hid' (show m = vs.length∧n = gs.length from ⟨h2.len,h1.len⟩)
 clear h1 h2 ha had hla hld ht
 obtain ⟨rf,hrf⟩:∃ rf,rf = refM s.data.toList k gs vs i':=⟨_,rfl⟩
 have HRE:=hid' hrf
 clear hrf
 have HSM:=hid' (sideM_any s k a1 a2 n c m c' gs vs)
 have HFM:=hid' (findM_any s k a1 a2 n c m c' gs vs sg nA b1 b2 k1 c1 k2 c2 an ad)
 have HFF:=hid' (rfaultM_any s k a1 a2 n c m c' gs vs i')
 go_enter Tryz.func4,Tryz.ntmps4
 go_upto_region 1 with fail
 have hM:=(Row4.alloc 24 w (.string s) (.int .u8 k) (.slice a1 n c) (.slice a2 m c')).kept ((Kept.refl (w.alloc (.cells #[.string s,.int .u8 k,.slice a1 n c,.slice a2 m c'] 24))).alloc (.cells #[.bool sg,.slice b1 k1 c1,.bool nA,.slice b2 k2 c2] 29))
 have hU:=F.RRow.alloc (w.alloc (.cells #[.string s,.int .u8 k,.slice a1 n c,.slice a2 m c'] 24)) (.bool sg) (.slice b1 k1 c1) (.bool nA) (.slice b2 k2 c2)
 have hK:=((Kept.refl w).alloc (.cells #[.string s,.int .u8 k,.slice a1 n c,.slice a2 m c'] 24)).alloc (.cells #[.bool sg,.slice b1 k1 c1,.bool nA,.slice b2 k2 c2] 29)
 rw [World.size_alloc] at hU
 generalize (w.alloc (.cells #[.string s,.int .u8 k,.slice a1 n c,.slice a2 m c'] 24)).alloc (.cells #[.bool sg,.slice b1 k1 c1,.bool nA,.slice b2 k2 c2] 29) = W at hM hU hK ⊢
 obtain ⟨q,hq⟩:∃ q,q = w.heap.size + 1:=⟨_,rfl⟩
 rw [← hq] at hU ⊢
 obtain ⟨p,hp⟩:∃ q,q = w.heap.size:=⟨_,rfl⟩
 rw [← hp] at hM ⊢
 clear hq hp
 have HK:=hid' (And.intro hK (And.intro hM hU))
 clear hK hM hU
 go_wp2_with fail
 refine (awakeM_any _ (HS.out.2.2.2.2.2.2.kept HK.out.1)).mono ?_
 rintro e w1 ⟨hk1',rfl⟩
 have HK:=hid' (And.intro (HK.out.1.trans hk1') (And.intro (HK.out.2.1.kept hk1') (HK.out.2.2.kept hk1')))
 clear hk1'
 have q0:=HK.out.2.1.c0
 have q1:=HK.out.2.1.c1
 have q2:=HK.out.2.1.c2
 have q3:=HK.out.2.1.c3
 go_wp2_with fail
 refine (HFF.out _ hs (HS.out.1.kept HK.out.1) (HS.out.2.1.kept HK.out.1) hn hm).mono ?_
 rintro e w2 ⟨hk2',rfl⟩
 have HK:=hid' (And.intro (HK.out.1.trans hk2') (And.intro (HK.out.2.1.kept hk2') (HK.out.2.2.kept hk2')))
 clear hk2' q0 q1 q2 q3 HFF
 rw [← HRE.out]
 by_cases hr0:rf = 0
 ·
  have HRF:=hid' (refM_zero (s:=s.data.toList) (k:=k) (gs:=gs) (vs:=vs) (i:=i') (by rw [← HRE.out]; exact hr0))
  clear HRE
  subst hr0
  have q0:=HK.out.2.2.c0
  have q1:=HK.out.2.2.c1
  have q2:=HK.out.2.2.c2
  have q3:=HK.out.2.2.c3
  by_cases hz:(160:Int) < (k1:Int) + (k2:Int)
  ·
   have hz2:160 < k1 + k2:=by omega
   go_wp2_with fail
   go_ret
   exact ⟨HK.out.1,rfl⟩
  ·
   have hz2:¬ 160 < k1 + k2:=by omega
   go_wp2_with fail
   refine (F.Fault_any sg nA b1 b2 k1 c1 k2 c2 an ad _ (HS.out.2.2.1.kept HK.out.1) (HS.out.2.2.2.1.kept HK.out.1) HS.out.2.2.2.2.1 HS.out.2.2.2.2.2.1).mono ?_
   rintro e w3 ⟨hk3,cc,rfl,hcc⟩
   have HK:=hid' (And.intro (HK.out.1.trans hk3) (And.intro (HK.out.2.1.kept hk3) (HK.out.2.2.kept hk3)))
   clear hk3 q0 q1 q2 q3
   by_cases hc0:cc = 0
   ·
    have HR:=hid' (show F.RatR sg nA an ad by
     rcases hcc with ⟨h,_⟩ | ⟨h,_⟩ | ⟨_,h⟩
     ·
      omega
     ·
      omega
     ·
      exact h)
    have HOA:=hid' (okM_all HRF.out.1)
    have HL:=hid' (show m = vs.length∧n = gs.length∧n = m + 1∧n≤4 by
     have e0:=HL0.out
     have e3:=fits_len HOA.out.2.2.2
     exact ⟨e0.1,e0.2,by omega,by omega⟩)
    obtain ⟨i,rfl⟩:∃ i:Nat,i' = (i:Int):=⟨i'.toNat,by have:=HRF.out.2; omega⟩
    have hi:i≤m:=by have:=HRF.out.2; have:=HL.out; omega
    have HSI:=hid' (fun (q:Nat) (hq:q≤m) => side_walk (N:=M.int sg an) (D:=M.val ad) (vs:=vs) HR.out.vpos HOA.out.2.2.1 (k:=q) (by have:=HL.out; omega))
    have HCN:=hid' ((cntA_spec (M.int sg an) (M.val ad) vs).1)
    obtain ⟨cn,hcn⟩:∃ cn,cn = cntA (M.int sg an) (M.val ad) vs:=⟨_,rfl⟩
    have HCE:=hid' hcn
    rw [← hcn] at HSI HCN
    have hcm:cn≤m:=by have:=HCN.out; have:=HL.out; omega
    have hm3:m≤3:=by have:=HL.out; omega
    have hnm:n = m + 1:=by have:=HL.out; omega
    subst hnm
    clear hcn hcc
    subst hc0
    go_wp2_with fail
    go_loopw [1,7] (fun vk vi wr => ∃ q j:Nat,q≤m∧j≤3∧(q - cn) + (cn - q) + j≤3∧vk = .int .i64 (q:Int)∧vi = .int .i64 (j:Int)∧Hid (Kept w3 wr)) (fun _ vi _ => 4 - (intOf vi).toNat)
    case atStart => exact ⟨i,0,hi,by omega,by omega,rfl,rfl,Kept.refl _⟩
    case round =>
     obtain ⟨q',j,hq',hj,hd,rfl,rfl,H⟩:=hrel
     have hj4:(j:Int) < 4:=by omega
     have q0:=(HK.out.2.1.kept H.out).c0
     have q1:=(HK.out.2.1.kept H.out).c1
     have q2:=(HK.out.2.1.kept H.out).c2
     have q3:=(HK.out.2.1.kept H.out).c3
     have u0:=(HK.out.2.2.kept H.out).c0
     have u1:=(HK.out.2.2.kept H.out).c1
     have u2:=(HK.out.2.2.kept H.out).c2
     have u3:=(HK.out.2.2.kept H.out).c3
     go_wp2_with fail
     refine (HSM.out (q':Int) sg nA b1 b2 k1 c1 k2 c2 an ad _ hs (HS.out.1.kept (HK.out.1.trans H.out)) (HS.out.2.1.kept (HK.out.1.trans H.out)) hn hm (HS.out.2.2.1.kept (HK.out.1.trans H.out)) (HS.out.2.2.2.1.kept (HK.out.1.trans H.out)) HS.out.2.2.2.2.1 HS.out.2.2.2.2.2.1).mono ?_
     rintro e w4 ⟨hk4,z,f,rfl,hSI⟩
     obtain ⟨rfl,hz⟩:=side_ok HRF.out.1 (by have:=HL.out; omega) HR.out hSI
     have H4:=hid' (H.out.trans hk4)
     clear q0 q1 q2 q3 u0 u1 u2 u3 hk4 hSI
     have q2:=(HK.out.2.1.kept H4.out).c2
     rcases HSI.out q' hq' with ⟨e0,hh⟩ | ⟨e0,hh⟩ | ⟨e0,hh⟩
     ·
      rw [e0] at hz
      subst hz
      have q0:=(HK.out.2.1.kept H4.out).c0
      have q1:=(HK.out.2.1.kept H4.out).c1
      have q3:=(HK.out.2.1.kept H4.out).c3
      have u0:=(HK.out.2.2.kept H4.out).c0
      have u1:=(HK.out.2.2.kept H4.out).c1
      have u2:=(HK.out.2.2.kept H4.out).c2
      have u3:=(HK.out.2.2.kept H4.out).c3
      have HE:=hid' e0
      have HH:=hid' hh
      clear e0 hh
      go_wp2_with fail
      refine (HSM.out (q':Int) sg nA b1 b2 k1 c1 k2 c2 an ad _ hs (HS.out.1.kept (HK.out.1.trans H4.out)) (HS.out.2.1.kept (HK.out.1.trans H4.out)) hn hm (HS.out.2.2.1.kept (HK.out.1.trans H4.out)) (HS.out.2.2.2.1.kept (HK.out.1.trans H4.out)) HS.out.2.2.2.2.1 HS.out.2.2.2.2.2.1).mono ?_
      rintro e w5 ⟨hk5,z,f,rfl,hSI⟩
      obtain ⟨rfl,hz⟩:=side_ok HRF.out.1 (by have:=HL.out; omega) HR.out hSI
      rw [HE.out] at hz
      subst hz
      have H5:=hid' (H4.out.trans hk5)
      clear q0 q1 q2 q3 u0 u1 u2 u3 hk5 hSI
      have q0:=(HK.out.2.1.kept H5.out).c0
      have q1:=(HK.out.2.1.kept H5.out).c1
      have q2:=(HK.out.2.1.kept H5.out).c2
      have q3:=(HK.out.2.1.kept H5.out).c3
      have u0:=(HK.out.2.2.kept H5.out).c0
      have u1:=(HK.out.2.2.kept H5.out).c1
      have u2:=(HK.out.2.2.kept H5.out).c2
      have u3:=(HK.out.2.2.kept H5.out).c3
      go_wp2_with fail
      refine (HFM.out _ hs (HS.out.1.kept (HK.out.1.trans H5.out)) (HS.out.2.1.kept (HK.out.1.trans H5.out)) hn hm (HS.out.2.2.1.kept (HK.out.1.trans H5.out)) (HS.out.2.2.2.1.kept (HK.out.1.trans H5.out)) HS.out.2.2.2.2.1 HS.out.2.2.2.2.2.1).mono ?_
      rintro e w6 ⟨hk6,z,f,rfl,hFI⟩
      obtain ⟨rfl,hz⟩:=find_ok HRF.out.1 HR.out hFI
      rw [← HCE.out] at hz
      subst hz
      have H6:=hid' (H5.out.trans hk6)
      clear q0 q1 q2 q3 u0 u1 u2 u3 hk6 hFI
      by_cases hcq:cn = q'
      ·
       have hcq':((cn:Int) == (q':Int)) = true:=by simp [hcq]
       clear hcq HH
       go_wp2_with fail
       go_ret
       exact ⟨HK.out.1.trans H6.out,rfl⟩
      ·
       have hcq':((cn:Int) == (q':Int)) = false:=by simp; omega
       have hcq2:(q':Int) - 1 = (cn:Int):=by have:=HH.out; omega
       have hcq3:IntKind.i64.wrap (cn:Int) = (cn:Int):=by rw [IntKind.wrap_i64]; omega
       clear hcq HH
       go_wp2_with fail
       go_ret
       exact ⟨HK.out.1.trans H6.out,rfl⟩
     ·
      rw [e0] at hz
      subst hz
      have g1:¬ (q':Int) + 1 < 0:=by omega
      have g2:¬ ((m + 1:Nat):Int)≤(q':Int) + 1:=by omega
      clear e0
      go_wp2_with fail
      go_roundw
      case rel => exact ⟨q' + 1,j + 1,by omega,by omega,by omega,by go_num,by go_num,H4.out⟩
      case measure => show 4 - ((j:Int) + 1).toNat < 4 - (j:Int).toNat; omega
     ·
      rw [e0] at hz
      subst hz
      obtain ⟨r,rfl⟩:∃ r,q' = r + 1:=⟨q' - 1,by omega⟩
      have g0:((r + 1:Nat):Int) + -1 = (r:Int):=by omega
      have g3:IntKind.i64.wrap (r:Int) = (r:Int):=by rw [IntKind.wrap_i64]; omega
      have g1:¬ (r:Int) < 0:=by omega
      have g2:¬ ((m + 1:Nat):Int)≤(r:Int):=by omega
      clear e0
      go_wp2_with fail
      go_roundw
      case rel => exact ⟨r,j + 1,by omega,by omega,by omega,by go_num,by go_num,H4.out⟩
      case measure => show 4 - ((j:Int) + 1).toNat < 4 - (j:Int).toNat; omega
   ·
    have hc1:(cc != 0) = true:=by simpa using hc0
    go_wp2_with fail
    go_ret
    exact ⟨HK.out.1,rfl⟩
 ·
  go_wp2_with fail
  go_ret
  exact ⟨HK.out.1,rfl⟩
end V
end Go.Proofs.YthfbfbfambbkaaaGreatDoor
