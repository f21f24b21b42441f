/- shuntlaw05.awake. ModelRises. -/
import Derived.Test.YthfbfbfambbkaaaGreatDoorGas
import Derived.Test.YthfbfbfambbkaaaGreatDoorOc3
import Derived.Test.YthfbfbfambbkaaaGreatDoorGat
import Derived.Test.YthfbfbfambbkaaaGreatDoorTxg
import Derived.Test.YthfbfbfambbkaaaGreatDoorGam
namespace Go.Proofs.YthfbfbfambbkaaaGreatDoor
open Go.RowKit
namespace V
open Q (hid' Row3 Row2 okN okN_bd Scl RQ)
theorem rowM (t:TypeId) (w:World) (xs:Array Value):(w.alloc (.cells xs t)).rowIs w.heap.size t xs.size (fun i => xs.getD i (.bool false)) :=
 World.rowIs_alloc w xs t _ (fun i hi => by simp [Array.getD,hi])
theorem rt_is {B:Nat} {w:World} {v:Value} {A N':Int} {S D':Nat} (h:RT B w v A S) (hS:0 < S) (hD:0 < D') (hc:Nat.gcd N'.natAbs D' = 1) (he:N' * (S:Int) = A * D'):RQ B w v N' D':=by
 obtain ⟨N,D,q,e⟩:=h
 have hl:=q.low
 have key:N * (D':Int) = N' * D:=by
  apply Int.eq_of_mul_eq_mul_right (show (S:Int) ≠ 0 by omega)
  calc N * D' * S = N * S * D':=Int.mul_right_comm _ _ _
   _ = A * D * D':=by rw [e]
   _ = A * D' * D:=Int.mul_right_comm _ _ _
   _ = N' * S * D:=by rw [he]
   _ = N' * D * S:=Int.mul_right_comm _ _ _
 have kn:=congrArg Int.natAbs key
 rw [Int.natAbs_mul,Int.natAbs_mul,Int.natAbs_natCast,Int.natAbs_natCast] at kn
 have d1:D ∣ D':=(Nat.Coprime.symm hl.2).dvd_of_dvd_mul_left (by rw [kn]; exact Nat.dvd_mul_left _ _)
 have d2:D' ∣ D:=(Nat.Coprime.symm (show Nat.Coprime N'.natAbs D' from hc)).dvd_of_dvd_mul_left (by rw [← kn]; exact Nat.dvd_mul_left _ _)
 have eD:D = D':=Nat.dvd_antisymm d1 d2
 subst eD
 have eN:N = N':=Int.eq_of_mul_eq_mul_right (show (D:Int) ≠ 0 by omega) key
 subst eN
 exact q
set_option maxRecDepth 100000 in
set_option maxHeartbeats 8000000 in
theorem awakeM_any (w:World) (ht:Tab w):Calls Tryz.prog 7 #[] w fun e w' => Kept w w'∧e = .returned (.bool true):=by
 have HT:=hid' ht
 clear ht
 go_enter Tryz.func7,Tryz.ntmps7
 go_upto_region 2 with fail
 have hK:=((Kept.refl w).alloc (.cells #[.int .i64 1,.int .i64 (-6),.int .i64 1,.int .i64 (-1)] 48)).alloc (.cells #[.int .i64 7,.int .i64 (-1)] 48) |>.alloc (.cells #[.string ⟨#[100]⟩,.int .u8 100,.slice (some ⟨w.heap.size,0,none⟩) 2 2,.slice (some ⟨w.heap.size + 1,0,none⟩) 1 1] 24)
 have r1:=(rowM 48 w #[.int .i64 1,.int .i64 (-6),.int .i64 1,.int .i64 (-1)]).of_block (((Kept.refl _).alloc (.cells #[.int .i64 7,.int .i64 (-1)] 48)).block w.heap.size (rowM 48 w #[.int .i64 1,.int .i64 (-6),.int .i64 1,.int .i64 (-1)]).lt)
 have r2:=rowM 48 (w.alloc (.cells #[.int .i64 1,.int .i64 (-6),.int .i64 1,.int .i64 (-1)] 48)) #[.int .i64 7,.int .i64 (-1)]
 rw [World.size_alloc] at r2
 have hR:=Row4.alloc 24 ((w.alloc (.cells #[.int .i64 1,.int .i64 (-6),.int .i64 1,.int .i64 (-1)] 48)).alloc (.cells #[.int .i64 7,.int .i64 (-1)] 48)) (.string ⟨#[100]⟩) (.int .u8 100) (.slice (some ⟨w.heap.size,0,none⟩) 2 2) (.slice (some ⟨w.heap.size + 1,0,none⟩) 1 1)
 simp only [World.size_alloc] at hR
 have hK3:=(Kept.refl ((w.alloc (.cells #[.int .i64 1,.int .i64 (-6),.int .i64 1,.int .i64 (-1)] 48)).alloc (.cells #[.int .i64 7,.int .i64 (-1)] 48))).alloc (.cells #[.string ⟨#[100]⟩,.int .u8 100,.slice (some ⟨w.heap.size,0,none⟩) 2 2,.slice (some ⟨w.heap.size + 1,0,none⟩) 1 1] 24)
 have hG:NSl ((w.alloc (.cells #[.int .i64 1,.int .i64 (-6),.int .i64 1,.int .i64 (-1)] 48)).alloc (.cells #[.int .i64 7,.int .i64 (-1)] 48)) (.slice (some ⟨w.heap.size,0,none⟩) 2 2) [((1:Int),(-6:Int)),(1,-1)]:=⟨_,2,rfl,fun _ => ⟨w.heap.size,0,rfl,r1.lt,fun j hj => by
  match j,hj with
  | 0,_ => exact ⟨r1.cell (i:=0) (show 0 < 4 by decide),r1.cell (i:=1) (show 1 < 4 by decide)⟩
  | 1,_ => exact ⟨r1.cell (i:=2) (show 2 < 4 by decide),r1.cell (i:=3) (show 3 < 4 by decide)⟩⟩⟩
 have hV:NSl ((w.alloc (.cells #[.int .i64 1,.int .i64 (-6),.int .i64 1,.int .i64 (-1)] 48)).alloc (.cells #[.int .i64 7,.int .i64 (-1)] 48)) (.slice (some ⟨w.heap.size + 1,0,none⟩) 1 1) [((7:Int),(-1:Int))]:=⟨_,1,rfl,fun _ => ⟨w.heap.size + 1,0,rfl,r2.lt,fun j hj => by
  match j,hj with
  | 0,_ => exact ⟨r2.cell (i:=0) (show 0 < 2 by decide),r2.cell (i:=1) (show 1 < 2 by decide)⟩⟩⟩
 have hG:=hG.kept hK3
 have hV:=hV.kept hK3
 clear r1 r2 hK3
 generalize ((w.alloc (.cells #[.int .i64 1,.int .i64 (-6),.int .i64 1,.int .i64 (-1)] 48)).alloc (.cells #[.int .i64 7,.int .i64 (-1)] 48)).alloc (.cells #[.string ⟨#[100]⟩,.int .u8 100,.slice (some ⟨w.heap.size,0,none⟩) 2 2,.slice (some ⟨w.heap.size + 1,0,none⟩) 1 1] 24) = W at hK hR hG hV ⊢
 obtain ⟨p3,hp3⟩:∃ p,p = w.heap.size + 1 + 1:=⟨_,rfl⟩
 rw [← hp3] at hR ⊢
 obtain ⟨p2,hp2⟩:∃ p,p = w.heap.size + 1:=⟨_,rfl⟩
 rw [← hp2] at hR hV ⊢
 obtain ⟨p1,hp1⟩:∃ p,p = w.heap.size:=⟨_,rfl⟩
 rw [← hp1] at hR hG ⊢
 clear hp1 hp2 hp3
 have HK:=hid' (And.intro hK hR)
 have HN:=hid' (And.intro hG hV)
 have q0:=hR.c0
 have q1:=hR.c1
 have q2:=hR.c2
 have q3:=hR.c3
 clear hK hR hG hV
 go_wp2_with fail
 refine (partM_any ⟨#[100]⟩ 100 _ _ 2 2 1 1 [((1:Int),(-6:Int)),(1,-1)] [((7:Int),(-1:Int))] 1 _ (by decide) HN.out.1 HN.out.2 (by decide) (by decide)).mono ?_
 rintro e w1 ⟨hk1,hP⟩
 rcases hP with ⟨h0,_⟩ | ⟨_,u,v,rfl,ru,rv⟩
 ·
  exact absurd (show refM [100] 100 [((1:Int),(-6:Int)),(1,-1)] [((7:Int),(-1:Int))] 1 = 0 by kernel_rfl) h0
 have ru:=rt_is (N':=1) (D':=10) ru (by decide) (by decide) (by decide) (by decide +kernel)
 have rv:=rt_is (N':=-69999300) (D':=1) rv (by decide) (by decide) (by decide) (by decide +kernel)
 obtain ⟨g0,g1,g2,g3,g4,g5,g6,gl,gl',rfl,gn1,gn2,gr,gi,gv⟩:=ru
 obtain ⟨c0,c1,c2,c3,c4,c5,c6,cl,cl',rfl,cn1,cn2,cr,ci,cv⟩:=rv
 obtain ⟨_,rfl⟩:=F.one_limb (x:=10) (gr.rd.right gn2.sl.1) (by rw [show M.int false gl' = (M.val gl':Int) by simp [M.int],gv]) (by decide) (by decide)
 obtain ⟨rfl,rfl⟩:=F.one_limb' (x:=69999300) (cr.ra.right cn1.sl.1) (by rw [ci]; rfl) (by decide) (by decide)
 have HGC:=hid' (And.intro gn2.sl (And.intro cn1.sl cr.ra))
 have HK:=hid' (And.intro (HK.out.1.trans hk1) (HK.out.2.kept hk1))
 have HN:=hid' (And.intro (HN.out.1.kept hk1) (HN.out.2.kept hk1))
 clear hk1 q0 q1 q2 q3 gn1 gn2 gr gi gv cn1 cn2 cr ci cv
 go_upto_region 3 with fail
 have hG1:=(F.RRow.alloc w1 (.bool g0) (.slice g1 g3 g4) (.bool false) (.slice g2 g5 g6)).kept ((Kept.refl (w1.alloc (.cells #[.bool g0,.slice g1 g3 g4,.bool false,.slice g2 g5 g6] 29))).alloc (.cells #[.bool true,.slice c1 c3 c4,.bool false,.slice c2 c5 c6] 29))
 have hC1:=F.RRow.alloc (w1.alloc (.cells #[.bool g0,.slice g1 g3 g4,.bool false,.slice g2 g5 g6] 29)) (.bool true) (.slice c1 c3 c4) (.bool false) (.slice c2 c5 c6)
 have kA:=(((Kept.refl w1).alloc (.cells #[.bool g0,.slice g1 g3 g4,.bool false,.slice g2 g5 g6] 29)).alloc (.cells #[.bool true,.slice c1 c3 c4,.bool false,.slice c2 c5 c6] 29))
 simp only [World.size_alloc] at hC1
 generalize (w1.alloc (.cells #[.bool g0,.slice g1 g3 g4,.bool false,.slice g2 g5 g6] 29)).alloc (.cells #[.bool true,.slice c1 c3 c4,.bool false,.slice c2 c5 c6] 29) = W1 at hG1 hC1 kA ⊢
 obtain ⟨pc,hqpc⟩:∃ q,q = w1.heap.size + 1:=⟨_,rfl⟩
 rw [← hqpc] at hC1 ⊢
 obtain ⟨pg,hqpg⟩:∃ q,q = w1.heap.size:=⟨_,rfl⟩
 rw [← hqpg] at hG1 ⊢
 clear hqpg hqpc
 have HK:=hid' (And.intro (HK.out.1.trans kA) (HK.out.2.kept kA))
 have HN:=hid' (And.intro (HN.out.1.kept kA) (HN.out.2.kept kA))
 have HGC:=hid' (And.intro (HGC.out.1.kept kA) (And.intro (HGC.out.2.1.kept kA) HGC.out.2.2))
 have HB:=hid' (And.intro hG1 hC1)
 clear kA hG1 hC1
 go_wp2_with fail
 refine (of_any 700000001 _ (by omega) (by omega)).mono ?_
 rintro e w2 ⟨hk2,s2,a2,n2,k2,l2,rfl,hn2,hr2,hv2⟩
 obtain ⟨rfl,rfl⟩:=F.one_limb (x:=700000001) hr2 hv2 (by decide) (by decide)
 have HA2:=hid' (And.intro hn2.sl (R.of_right hr2))
 have HK:=hid' (And.intro (HK.out.1.trans hk2) (HK.out.2.kept hk2))
 have HN:=hid' (And.intro (HN.out.1.kept hk2) (HN.out.2.kept hk2))
 have HGC:=hid' (And.intro (HGC.out.1.kept hk2) (And.intro (HGC.out.2.1.kept hk2) HGC.out.2.2))
 have HB:=hid' (And.intro (HB.out.1.kept hk2) (HB.out.2.kept hk2))
 clear hk2
 clear hn2 hr2 hv2
 go_wp2_with fail
 refine (of_any 1 _ (by omega) (by omega)).mono ?_
 rintro e w3 ⟨hk3,s3,a3,n3,k3,l3,rfl,hn3,hr3,hv3⟩
 obtain ⟨rfl,rfl⟩:=F.one_limb (x:=1) hr3 hv3 (by decide) (by decide)
 have HA2:=hid' (And.intro (HA2.out.1.kept hk3) HA2.out.2)
 have HA3:=hid' (And.intro hn3.sl (R.of_right hr3))
 have HK:=hid' (And.intro (HK.out.1.trans hk3) (HK.out.2.kept hk3))
 have HN:=hid' (And.intro (HN.out.1.kept hk3) (HN.out.2.kept hk3))
 have HGC:=hid' (And.intro (HGC.out.1.kept hk3) (And.intro (HGC.out.2.1.kept hk3) HGC.out.2.2))
 have HB:=hid' (And.intro (HB.out.1.kept hk3) (HB.out.2.kept hk3))
 clear hk3
 clear hn3 hr3 hv3
 go_wp2_with fail
 refine (F.Make_ok false false a2 a3 n2 k2 n3 k3 [700000001] [1] _ HA2.out.1 HA3.out.1 HA2.out.2 HA3.out.2 (by decide)).mono ?_
 rintro e w4 ⟨hk4,v,X,Y,rfl,hRN,gd,hg1,hg2,hg3,hg4⟩
 have hgd:gd = 1:=by
  have e1:gd.natAbs = 1:=by rw [hg1]; decide
  have e2:¬ gd < 0:=fun h => absurd (hg4.1 h) (by decide)
  omega
 subst hgd
 obtain ⟨t0,t1,t3,t4,tl,tn,t2,t5,t6,tl',rfl,tn1,tr1,ti1,tn2,tr2,ti2,tR⟩:=hRN
 obtain ⟨rfl,rfl⟩:=F.one_limb (x:=700000001) tr1 (by rw [ti1]; rw [Int.mul_one] at hg2; rw [hg2]; rfl) (by decide) (by decide)
 obtain ⟨rfl,rfl⟩:=F.one_limb (x:=1) tr2 (by rw [ti2]; rw [Int.mul_one] at hg3; rw [hg3]; rfl) (by decide) (by decide)
 have HU:=hid' (And.intro tn1.sl (And.intro tn2.sl tR))
 have HK:=hid' (And.intro (HK.out.1.trans hk4) (HK.out.2.kept hk4))
 have HN:=hid' (And.intro (HN.out.1.kept hk4) (HN.out.2.kept hk4))
 have HGC:=hid' (And.intro (HGC.out.1.kept hk4) (And.intro (HGC.out.2.1.kept hk4) HGC.out.2.2))
 have HB:=hid' (And.intro (HB.out.1.kept hk4) (HB.out.2.kept hk4))
 clear hk4
 clear HA2 HA3 tn1 tn2 tr1 tr2 ti1 ti2 tR hg1 hg2 hg3 hg4
 go_upto_region 4 with fail
 have hU1:=F.RRow.alloc w4 (.bool false) (.slice t1 t3 t4) (.bool false) (.slice t2 t5 t6)
 have kA:=((Kept.refl w4).alloc (.cells #[.bool false,.slice t1 t3 t4,.bool false,.slice t2 t5 t6] 29))
 generalize w4.alloc (.cells #[.bool false,.slice t1 t3 t4,.bool false,.slice t2 t5 t6] 29) = W4 at hU1 kA ⊢
 obtain ⟨pu,hqpu⟩:∃ q,q = w4.heap.size:=⟨_,rfl⟩
 rw [← hqpu] at hU1 ⊢
 have HU:=hid' (And.intro (HU.out.1.kept kA) (And.intro (HU.out.2.1.kept kA) (And.intro HU.out.2.2 hU1)))
 have HK:=hid' (And.intro (HK.out.1.trans kA) (HK.out.2.kept kA))
 have HN:=hid' (And.intro (HN.out.1.kept kA) (HN.out.2.kept kA))
 have HGC:=hid' (And.intro (HGC.out.1.kept kA) (And.intro (HGC.out.2.1.kept kA) HGC.out.2.2))
 have HB:=hid' (And.intro (HB.out.1.kept kA) (HB.out.2.kept kA))
 clear kA
 clear hqpu hU1
 have q0:=HK.out.2.c0
 have q1:=HK.out.2.c1
 have q2:=HK.out.2.c2
 have q3:=HK.out.2.c3
 have u0:=HU.out.2.2.2.c0
 have u1:=HU.out.2.2.2.c1
 have u2:=HU.out.2.2.2.c2
 have u3:=HU.out.2.2.2.c3
 go_wp2_with fail
 refine (sideM_any ⟨#[100]⟩ 100 _ _ 2 2 1 1 [((1:Int),(-6:Int)),(1,-1)] [((7:Int),(-1:Int))] 0 false false _ _ _ _ _ _ [700000001] [1] _ (by decide) HN.out.1 HN.out.2 (by decide) (by decide) HU.out.1 HU.out.2.1 (by decide) (by decide)).mono ?_
 rintro e w5 ⟨hk5,z,f,rfl,hS⟩
 obtain ⟨rfl,hz⟩:=side_ok (s:=[100]) (k:=100) (gs:=[((1:Int),(-6:Int)),(1,-1)]) (q:=0) (by kernel_rfl) (by decide) HU.out.2.2.1 hS
 have hz':z = 1:=by rw [hz]; kernel_rfl
 subst hz'
 have HU:=hid' (And.intro (HU.out.1.kept hk5) (And.intro (HU.out.2.1.kept hk5) (And.intro HU.out.2.2.1 (HU.out.2.2.2.kept hk5))))
 have HK:=hid' (And.intro (HK.out.1.trans hk5) (HK.out.2.kept hk5))
 have HN:=hid' (And.intro (HN.out.1.kept hk5) (HN.out.2.kept hk5))
 have HGC:=hid' (And.intro (HGC.out.1.kept hk5) (And.intro (HGC.out.2.1.kept hk5) HGC.out.2.2))
 have HB:=hid' (And.intro (HB.out.1.kept hk5) (HB.out.2.kept hk5))
 clear hk5
 clear q0 q1 q2 q3 u0 u1 u2 u3 hS hz
 have q0:=HK.out.2.c0
 have q1:=HK.out.2.c1
 have q2:=HK.out.2.c2
 have q3:=HK.out.2.c3
 have u0:=HU.out.2.2.2.c0
 have u1:=HU.out.2.2.2.c1
 have u2:=HU.out.2.2.2.c2
 have u3:=HU.out.2.2.2.c3
 go_wp2_with fail
 refine (findM_any ⟨#[100]⟩ 100 _ _ 2 2 1 1 [((1:Int),(-6:Int)),(1,-1)] [((7:Int),(-1:Int))] false false _ _ _ _ _ _ [700000001] [1] _ (by decide) HN.out.1 HN.out.2 (by decide) (by decide) HU.out.1 HU.out.2.1 (by decide) (by decide)).mono ?_
 rintro e w6 ⟨hk6,z,f,rfl,hS⟩
 obtain ⟨rfl,hz⟩:=find_ok (by kernel_rfl) HU.out.2.2.1 hS
 have hz':z = 1:=by rw [hz]; kernel_rfl
 subst hz'
 have HK:=hid' (And.intro (HK.out.1.trans hk6) (HK.out.2.kept hk6))
 have HN:=hid' (And.intro (HN.out.1.kept hk6) (HN.out.2.kept hk6))
 have HGC:=hid' (And.intro (HGC.out.1.kept hk6) (And.intro (HGC.out.2.1.kept hk6) HGC.out.2.2))
 have HB:=hid' (And.intro (HB.out.1.kept hk6) (HB.out.2.kept hk6))
 clear hk6
 clear q0 q1 q2 q3 u0 u1 u2 u3 hS hz HU
 have f0:=HB.out.2.c0
 have f1:=HB.out.2.c1
 go_wp2_with fail
 refine (text_any true _ [69999300] _ HGC.out.2.1 HGC.out.2.2 (HT.out.kept HK.out.1)).mono ?_
 rintro e w7 ⟨hk7,D,hpl,_,hdv,rfl⟩
 have hD:D = [54,57,57,57,57,51,48,48]:=by rw [plain_dec hpl,hdv]; kernel_rfl
 subst hD
 rw [show (tx true [54,57,57,57,57,51,48,48]).toArray = #[45,54,57,57,57,57,51,48,48] from rfl]
 have HK:=hid' (And.intro (HK.out.1.trans hk7) (HK.out.2.kept hk7))
 have HN:=hid' (And.intro (HN.out.1.kept hk7) (HN.out.2.kept hk7))
 have HGC:=hid' (And.intro (HGC.out.1.kept hk7) (And.intro (HGC.out.2.1.kept hk7) HGC.out.2.2))
 have HB:=hid' (And.intro (HB.out.1.kept hk7) (HB.out.2.kept hk7))
 clear hk7
 clear f0 f1 hpl hdv
 obtain ⟨e5,_,gb,go,rfl,hcell⟩:=F.Sl.one HGC.out.1
 subst e5
 have q0:=HK.out.2.c0
 have q1:=HK.out.2.c1
 have q2:=HK.out.2.c2
 have q3:=HK.out.2.c3
 have d3:=HB.out.1.c3
 go_wp2_with fail
 refine (validM_any ⟨#[100]⟩ 100 _ _ 2 2 1 1 [((1:Int),(-6:Int)),(1,-1)] [((7:Int),(-1:Int))] _ (by decide) HN.out.1 HN.out.2 (by decide) (by decide)).mono ?_
 rintro e w8 ⟨hk8,rfl⟩
 rw [show okM (⟨#[100]⟩:ByteArray).data.toList 100 [((1:Int),(-6:Int)),(1,-1)] [((7:Int),(-1:Int))] = true by kernel_rfl]
 clear hcell d3 q0 q1 q2 q3
 have HK:=hid' (And.intro (HK.out.1.trans hk8) (HK.out.2.kept hk8))
 have HN:=hid' (And.intro (HN.out.1.kept hk8) (HN.out.2.kept hk8))
 have HGC:=hid' (And.intro (HGC.out.1.kept hk8) (And.intro (HGC.out.2.1.kept hk8) HGC.out.2.2))
 have HB:=hid' (And.intro (HB.out.1.kept hk8) (HB.out.2.kept hk8))
 clear hk8
 have q0:=HK.out.2.c0
 have q1:=HK.out.2.c1
 have q2:=HK.out.2.c2
 have q3:=HK.out.2.c3
 go_wp2_with fail
 refine (countM_any ⟨#[100]⟩ 100 _ _ 2 2 1 1 [((1:Int),(-6:Int)),(1,-1)] [((7:Int),(-1:Int))] _ (by decide) HN.out.1 HN.out.2 (by decide) (by decide)).mono ?_
 rintro e w9 ⟨hk9,rfl⟩
 rw [show okM (⟨#[100]⟩:ByteArray).data.toList 100 [((1:Int),(-6:Int)),(1,-1)] [((7:Int),(-1:Int))] = true by kernel_rfl]
 clear q0 q1 q2 q3
 have HK:=hid' (And.intro (HK.out.1.trans hk9) (HK.out.2.kept hk9))
 have HN:=hid' (And.intro (HN.out.1.kept hk9) (HN.out.2.kept hk9))
 have HGC:=hid' (And.intro (HGC.out.1.kept hk9) (And.intro (HGC.out.2.1.kept hk9) HGC.out.2.2))
 have HB:=hid' (And.intro (HB.out.1.kept hk9) (HB.out.2.kept hk9))
 clear hk9
 go_wp2_with fail
 refine (countM_any ⟨#[]⟩ 0 none none 0 0 0 0 [] [] _ (by decide) ⟨none,0,rfl,fun h => absurd h (by decide)⟩ ⟨none,0,rfl,fun h => absurd h (by decide)⟩ (by decide) (by decide)).mono ?_
 rintro e wa ⟨hka,rfl⟩
 rw [show okM (⟨#[]⟩:ByteArray).data.toList 0 [] [] = false by kernel_rfl]
 have HK:=hid' (And.intro (HK.out.1.trans hka) (HK.out.2.kept hka))
 have HN:=hid' (And.intro (HN.out.1.kept hka) (HN.out.2.kept hka))
 have HGC:=hid' (And.intro (HGC.out.1.kept hka) (And.intro (HGC.out.2.1.kept hka) HGC.out.2.2))
 have HB:=hid' (And.intro (HB.out.1.kept hka) (HB.out.2.kept hka))
 clear hka
 go_wp2_with fail
 go_ret
 exact ⟨HK.out.1,rfl⟩
end V
end Go.Proofs.YthfbfbfambbkaaaGreatDoor

namespace Go.Proofs.YthfbfbfambbkaaaGreatDoor
open Go.RowKit
namespace V
open Q (hid' Row3 Row2 okN okN_bd Scl RQ)
theorem gn_pos {gs:List (Int × Int)} {i:Nat} (h:0≤(gs.getD i (0,0)).1):0≤gn gs i:=by
 unfold gn U
 exact Int.mul_nonneg h (Int.natCast_nonneg _)
theorem own100 {w:World} {v:Value} {gs vs:List (Int × Int)} {i S:Nat} (h:RS w v (ownK 100 gs vs i) S):RS w v (ownS gs vs i) S:=by
 unfold ownK at h
 rw [if_neg (by decide)] at h
 exact h
theorem bd_gs {gs:List (Int × Int)} {i:Nat} (h:∀ q ∈ gs,okN q.1 q.2 = true) (hi:i < gs.length):(U (gs.getD i (0,0)).1 (gs.getD i (0,0)).2).natAbs≤10 ^ 36:=u_abs (at_ok h hi)
theorem bd_own {k:Int} {gs vs:List (Int × Int)} {i:Nat} (h:(∀ q ∈ gs,okN q.1 q.2 = true)∧(∀ q ∈ vs,okN q.1 q.2 = true)∧riseN vs = true∧fitsM k gs.length vs.length = true) (hi:i < gs.length):(ownS gs vs i).natAbs≤4 * 10 ^ 100:=by
 have hf:=fits_len' h.2.2.2
 have:=ownS_le (gs:=gs) (vs:=vs) (n:=gs.length) (m:=vs.length) (fun i hi => at_ok h.1 hi) (fun i hi => at_ok h.2.1 hi) i hi (by omega)
 exact Nat.le_trans this (Nat.mul_le_mul_right _ (by omega))
theorem bd_t {l:List Nat} (h:M.Bd l) (hl:l.length≤40):M.val l < 4294967296 ^ 40 :=
 Nat.lt_of_lt_of_le (M.val_lt h) (Nat.pow_le_pow_right (by decide) hl)
theorem bd_x {l:List Nat} (h:M.Bd l) (hl:l.length≤40) (s:Bool):(M.int s l).natAbs < 4294967296 ^ 40:=by rw [M.natAbs_int]; exact bd_t h hl
theorem line_bd {G C X:Int} {T:Nat} (hG:G.natAbs≤10 ^ 36) (hC:C.natAbs≤4 * 10 ^ 100) (hX:X.natAbs < 4294967296 ^ 40) (hT:T < 4294967296 ^ 40):(G * X).natAbs < M.W72∧10 ^ 18 * T < M.W72∧(G * X * 10 ^ 36 + C * T).natAbs < M.W72∧10 ^ 54 * T < M.W72:=by
 have hX':=Nat.le_of_lt hX
 have hT':=Nat.le_of_lt hT
 have e1:(G * X).natAbs≤10 ^ 36 * 4294967296 ^ 40:=by rw [Int.natAbs_mul]; exact Nat.mul_le_mul hG hX'
 have w1:10 ^ 36 * 4294967296 ^ 40 < M.W72:=by unfold M.W72; decide
 have w2:10 ^ 18 * 4294967296 ^ 40 < M.W72:=by unfold M.W72; decide
 have w3:10 ^ 54 * 4294967296 ^ 40 < M.W72:=by unfold M.W72; decide
 have w4:10 ^ 36 * 4294967296 ^ 40 * 10 ^ 36 + 4 * 10 ^ 100 * 4294967296 ^ 40 < M.W72:=by unfold M.W72; decide
 refine ⟨Nat.lt_of_le_of_lt e1 w1,Nat.lt_of_le_of_lt (Nat.mul_le_mul_left _ hT') w2,?_,Nat.lt_of_le_of_lt (Nat.mul_le_mul_left _ hT') w3⟩
 refine Nat.lt_of_le_of_lt (Nat.le_trans (Int.natAbs_add_le _ _) (Nat.add_le_add ?_ ?_)) w4
 ·
  rw [Int.natAbs_mul]; exact Nat.mul_le_mul e1 (Nat.le_refl _)
 ·
  rw [Int.natAbs_mul,Int.natAbs_natCast]; exact Nat.mul_le_mul hC hT'
theorem rise_sgn {gs vs:List (Int × Int)} (hr:riseN vs = true) (hg:∀ i,i≤vs.length→0≤gn gs i) {N N':Int} {D D':Nat} (hD:0 < D) (hD':0 < D') {j k:Nat} (hj:j = cntA N D vs) (hk:k = cntA N' D' vs) {sa sb:Int} (ha:sa = isgn (N * (D':Int)) (N' * (D:Int)))
  (hb:sb = isgn ((U (gs.getD j (0,0)).1 (gs.getD j (0,0)).2 * N * 10 ^ 36 + ownS gs vs j * (D:Int)) * ((10 ^ 54 * D':Nat):Int)) ((U (gs.getD k (0,0)).1 (gs.getD k (0,0)).2 * N' * 10 ^ 36 + ownS gs vs k * (D':Int)) * ((10 ^ 54 * D:Nat):Int))) :
  (sa = 0∧sb = 0) ∨ (sa < 0∧sb≤0) ∨ (0 < sa∧0≤sb):=by
 have h1:N * D'≤N' * D→_:=rises hr hg (N:=N) (N':=N') hD hD'
 have h2:N' * D≤N * D'→_:=rises hr hg (N:=N') (N':=N) hD' hD
 rw [← hj,← hk] at h1 h2
 unfold gn at h1 h2
 rw [← Int.mul_assoc,← Int.mul_assoc] at h1 h2
 rw [Int.natCast_mul,Int.natCast_mul,Int.mul_left_comm _ ((10 ^ 54:Nat):Int),Int.mul_left_comm _ ((10 ^ 54:Nat):Int)] at hb
 generalize (U (gs.getD j (0,0)).1 (gs.getD j (0,0)).2 * N * 10 ^ 36 + ownS gs vs j * (D:Int)) * (D':Int) = A at *
 generalize (U (gs.getD k (0,0)).1 (gs.getD k (0,0)).2 * N' * 10 ^ 36 + ownS gs vs k * (D':Int)) * (D:Int) = B at *
 unfold isgn at ha hb
 generalize N * (D':Int) = x at *
 generalize N' * (D:Int) = y at *
 have e:(((10 ^ 54:Nat):Int)) = 1000000000000000000000000000000000000000000000000000000:=by decide
 rw [e] at hb
 by_cases c1:x < y
 ·
  rw [if_pos c1] at ha
  have:=h1 (by omega)
  refine .inr (.inl ⟨by omega,?_⟩)
  split at hb <;> (try split at hb) <;> omega
 ·
  by_cases c2:x = y
  ·
   rw [if_neg c1,if_pos c2] at ha
   have a1:=h1 (by omega)
   have a2:=h2 (by omega)
   refine .inl ⟨ha,?_⟩
   split at hb <;> (try split at hb) <;> omega
  ·
   rw [if_neg c1,if_neg c2] at ha
   have:=h2 (by omega)
   refine .inr (.inr ⟨by omega,?_⟩)
   split at hb <;> (try split at hb) <;> omega
set_option maxRecDepth 100000 in
set_option maxHeartbeats 8000000 in
theorem riseM_any (s:ByteArray) (k:Int) (a1 a2:Option Addr) (n c m c':Nat) (gs vs:List (Int × Int)) (sg nA:Bool) (b1 b2:Option Addr) (k1 c1 k2 c2:Nat) (an ad:List Nat) (sh nB:Bool) (e1 e2:Option Addr) (k3 c3 k4 c4:Nat) (bn bd:List Nat) (w:World) (ht:Tab w) (hs:s.size≤9223372036854775807) (h1:NSl w (.slice a1 n c) gs) (h2:NSl w (.slice a2 m c') vs) (hn:n≤4611686018427387903) (hm:m≤4611686018427387903)
  (ha:Sl w (.slice b1 k1 c1) an) (had:Sl w (.slice b2 k2 c2) ad) (hla:an.length≤9223372036854775807) (hld:ad.length≤9223372036854775807) (hk1:k1≤1000000000000000) (hk2:k2≤1000000000000000)
  (hb:Sl w (.slice e1 k3 c3) bn) (hbd:Sl w (.slice e2 k4 c4) bd) (hlb:bn.length≤9223372036854775807) (hlbd:bd.length≤9223372036854775807) (hk3:k3≤1000000000000000) (hk4:k4≤1000000000000000) :
  Calls Tryz.prog 6 #[.agg #[.string s,.int .u8 k,.slice a1 n c,.slice a2 m c'],.agg #[.bool sg,.slice b1 k1 c1,.bool nA,.slice b2 k2 c2],.agg #[.bool sh,.slice e1 k3 c3,.bool nB,.slice e2 k4 c4]] w fun e w' => Kept w w'∧e = .returned (.bool true):=by
 have HS:=hid' (And.intro h1 (And.intro h2 (And.intro ha (And.intro had (And.intro hb hbd)))))
 have HLN:=hid' (And.intro hla (And.intro hld (And.intro hlb (And.intro hlbd ht))))
 have HL0:=hid' (show (m = vs.length∧n = gs.length)∧k1 = an.length∧k2 = ad.length∧k3 = bn.length∧k4 = bd.length from ⟨⟨h2.len,h1.len⟩,ha.len,had.len,hb.len,hbd.len⟩)
 clear h1 h2 ha had hb hbd hla hld hlb hlbd ht
 have HV:=hid' (rvalidM_any s k a1 a2 n c m c' gs vs)
 go_enter Tryz.func6,Tryz.ntmps6
 go_upto_region 1 with fail
 have hM:=(Row4.alloc 24 w (.string s) (.int .u8 k) (.slice a1 n c) (.slice a2 m c')).kept (((Kept.refl (w.alloc (.cells #[.string s,.int .u8 k,.slice a1 n c,.slice a2 m c'] 24))).alloc (.cells #[.bool sg,.slice b1 k1 c1,.bool nA,.slice b2 k2 c2] 29)).alloc (.cells #[.bool sh,.slice e1 k3 c3,.bool nB,.slice e2 k4 c4] 29))
 have hU:=(F.RRow.alloc (w.alloc (.cells #[.string s,.int .u8 k,.slice a1 n c,.slice a2 m c'] 24)) (.bool sg) (.slice b1 k1 c1) (.bool nA) (.slice b2 k2 c2)).kept ((Kept.refl ((w.alloc (.cells #[.string s,.int .u8 k,.slice a1 n c,.slice a2 m c'] 24)).alloc (.cells #[.bool sg,.slice b1 k1 c1,.bool nA,.slice b2 k2 c2] 29))).alloc (.cells #[.bool sh,.slice e1 k3 c3,.bool nB,.slice e2 k4 c4] 29))
 have hV:=F.RRow.alloc ((w.alloc (.cells #[.string s,.int .u8 k,.slice a1 n c,.slice a2 m c'] 24)).alloc (.cells #[.bool sg,.slice b1 k1 c1,.bool nA,.slice b2 k2 c2] 29)) (.bool sh) (.slice e1 k3 c3) (.bool nB) (.slice e2 k4 c4)
 have hK:=((((Kept.refl w).alloc (.cells #[.string s,.int .u8 k,.slice a1 n c,.slice a2 m c'] 24)).alloc (.cells #[.bool sg,.slice b1 k1 c1,.bool nA,.slice b2 k2 c2] 29)).alloc (.cells #[.bool sh,.slice e1 k3 c3,.bool nB,.slice e2 k4 c4] 29))
 simp only [World.size_alloc] at hU
 simp only [World.size_alloc] at hV
 generalize ((w.alloc (.cells #[.string s,.int .u8 k,.slice a1 n c,.slice a2 m c'] 24)).alloc (.cells #[.bool sg,.slice b1 k1 c1,.bool nA,.slice b2 k2 c2] 29)).alloc (.cells #[.bool sh,.slice e1 k3 c3,.bool nB,.slice e2 k4 c4] 29) = W at hM hU hV hK ⊢
 obtain ⟨q2,hqq2⟩:∃ q,q = w.heap.size + 1 + 1:=⟨_,rfl⟩
 rw [← hqq2] at hV ⊢
 obtain ⟨q1,hqq1⟩:∃ q,q = w.heap.size + 1:=⟨_,rfl⟩
 rw [← hqq1] at hU ⊢
 obtain ⟨p,hqp⟩:∃ q,q = w.heap.size:=⟨_,rfl⟩
 rw [← hqp] at hM ⊢
 clear hqp hqq1 hqq2
 have HK:=hid' (And.intro hK (And.intro hM (And.intro hU hV)))
 clear hK hM hU hV
 go_wp2_with fail
 refine (awakeM_any _ (HLN.out.2.2.2.2.kept HK.out.1)).mono ?_
 rintro e w1 ⟨hk1',rfl⟩
 have HK:=hid' (And.intro (HK.out.1.trans hk1') (And.intro (HK.out.2.1.kept hk1') (And.intro (HK.out.2.2.1.kept hk1') (HK.out.2.2.2.kept hk1'))))
 clear hk1'
 have q0:=HK.out.2.1.c0
 have q1:=HK.out.2.1.c1
 have q2:=HK.out.2.1.c2
 have q3:=HK.out.2.1.c3
 go_wp2_with fail
 refine (HV.out _ hs (HS.out.1.kept HK.out.1) (HS.out.2.1.kept HK.out.1) hn hm).mono ?_
 rintro e w2 ⟨hk2',rfl⟩
 have HK:=hid' (And.intro (HK.out.1.trans hk2') (And.intro (HK.out.2.1.kept hk2') (And.intro (HK.out.2.2.1.kept hk2') (HK.out.2.2.2.kept hk2'))))
 clear hk2' q0 q1 q2 q3 HV
 obtain ⟨ok,hok⟩:∃ ok,ok = okM s.data.toList k gs vs:=⟨_,rfl⟩
 rw [← hok]
 have HOK:=hid' hok
 clear hok
 have qk:=HK.out.2.1.c1
 cases ok
 ·
  go_wp2_with fail
  go_ret
  exact ⟨HK.out.1,rfl⟩
 by_cases hkd:¬ k = 100
 ·
  have hkb:(k != 100) = true:=by simpa using hkd
  go_wp2_with fail
  go_ret
  exact ⟨HK.out.1,rfl⟩
 have hkd:k = 100:=Classical.not_not.1 hkd
 subst hkd
 have u0:=HK.out.2.2.1.c0
 have u1:=HK.out.2.2.1.c1
 have u2:=HK.out.2.2.1.c2
 have u3:=HK.out.2.2.1.c3
 have v0:=HK.out.2.2.2.c0
 have v1:=HK.out.2.2.2.c1
 have v2:=HK.out.2.2.2.c2
 have v3:=HK.out.2.2.2.c3
 go_wp2_with fail
 refine (F.Faults_any _ w2.heap.size 0 2 2 _ _ _ _ _ _ _ _ _ _ _ (fun _ => rfl) (by omega) (F.RatAll.two (m:=sg) (n:=nA) (p:=sh) (q:=nB) (a1:=b1) (a2:=b2) (b1:=e1) (b2:=e2) (k1:=k1) (c1:=c1) (k2:=k2) (c2:=c2) (k3:=k3) (c3:=c3) (k4:=k4) (c4:=c4)
  ((World.cell?_alloc_at _ _ _ _ rfl).trans rfl) ((World.cell?_alloc_at _ _ _ _ rfl).trans rfl) ((World.cell?_alloc_at _ _ _ _ rfl).trans rfl) ((World.cell?_alloc_at _ _ _ _ rfl).trans rfl) ((World.cell?_alloc_at _ _ _ _ rfl).trans rfl) ((World.cell?_alloc_at _ _ _ _ rfl).trans rfl) ((World.cell?_alloc_at _ _ _ _ rfl).trans rfl) ((World.cell?_alloc_at _ _ _ _ rfl).trans rfl)
  (HS.out.2.2.1.kept (HK.out.1.alloc _)) (HS.out.2.2.2.1.kept (HK.out.1.alloc _)) (HS.out.2.2.2.2.1.kept (HK.out.1.alloc _)) (HS.out.2.2.2.2.2.kept (HK.out.1.alloc _)) HLN.out.1 HLN.out.2.1 HLN.out.2.2.1 HLN.out.2.2.2.1)).mono ?_
 rintro e w3 ⟨hk3',cc,rfl,hcc⟩
 have kk:=((Kept.refl w2).alloc _).trans hk3'
 have HK:=hid' (And.intro (HK.out.1.trans kk) (And.intro (HK.out.2.1.kept kk) (And.intro (HK.out.2.2.1.kept kk) (HK.out.2.2.2.kept kk))))
 clear hk3' kk u0 u1 u2 u3 v0 v1 v2 v3 qk
 rcases hcc.symm with ⟨hca,_⟩ | ⟨rfl,hcb⟩
 ·
  have hc0:(cc != 0) = true:=by rcases hca with rfl | rfl <;> rfl
  clear hcc hca
  go_wp2_with fail
  go_ret
  exact ⟨HK.out.1,rfl⟩
 have HR:=hid' (show F.RatR sg nA an ad∧F.RatR sh nB bn bd from ⟨hcb 0 (by omega),hcb 1 (by omega)⟩)
 clear hcc hcb
 have u1:=HK.out.2.2.1.c1
 have u3:=HK.out.2.2.1.c3
 have v1:=HK.out.2.2.2.c1
 have v3:=HK.out.2.2.2.c3
 have q2:=HK.out.2.1.c2
 by_cases hz:40 < k1 + k2 + k3 + k4
 ·
  have hz2:(40:Int) < (k1:Int) + (k2:Int) + (k3:Int) + (k4:Int):=by omega
  go_wp2_with fail
  go_ret
  exact ⟨HK.out.1,rfl⟩
 have hz2:¬ (40:Int) < (k1:Int) + (k2:Int) + (k3:Int) + (k4:Int):=by omega
 have HZ:=hid' hz
 go_wp2_with fail
 clear u1 u3 v1 v3 hz hz2
 have HOA:=hid' (okM_all HOK.out.symm)
 have HL:=hid' (show m = vs.length∧n = gs.length∧n = m + 1∧n≤4 by
  have e0:=HL0.out.1
  have e3:=fits_len HOA.out.2.2.2
  exact ⟨e0.1,e0.2,by omega,by omega⟩)
 go_loopw [65] (fun vi wr => ∃ j:Nat,j≤n∧vi = .int .i64 (j:Int)∧Hid (Kept w3 wr∧∀ i,i < j→0≤(gs.getD i (0,0)).1)) (fun vi _ => n - (intOf vi).toNat)
 case atStart => exact ⟨0,Nat.zero_le _,rfl,Kept.refl _,fun i hi => absurd hi (Nat.not_lt_zero _)⟩
 case round =>
  obtain ⟨j,hj,rfl,H⟩:=hrel
  by_cases hlt:j < n
  ·
   have hltz:(j:Int) < (n:Int):=by omega
   obtain ⟨b,off,rfl,hbb,hc⟩:=(HS.out.1.kept (HK.out.1.trans H.out.1)).at (j:=j) hlt
   obtain ⟨d0,d1⟩:=hc j hlt
   obtain ⟨x,hX⟩:∃ x,x = gs.getD j (0,0):=⟨_,rfl⟩
   rw [← hX] at d0 d1
   have HX:=hid' hX
   obtain ⟨x0,x1⟩:=x
   dsimp only at d0 d1
   clear hc hX hbb
   by_cases hx0:x0 < 0
   ·
    go_wp2_with fail
    go_ret
    exact ⟨(HK.out.1.trans H.out.1).alloc _,rfl⟩
   ·
    have hx1:0≤x0:=by omega
    go_wp2_with fail
    go_roundw
    case rel =>
     refine ⟨j + 1,by omega,by go_num,H.out.1.alloc _,fun i hi => ?_⟩
     by_cases e:i = j
     ·
      subst e; rw [← HX.out]; exact hx1
     ·
      exact H.out.2 i (by omega)
    case measure => show n - ((j:Int) + 1).toNat < n - (j:Int).toNat; omega
  ·
   obtain rfl:j = n:=by omega
   have hltz:¬ (j:Int) < (j:Int):=by omega
   have HP:=hid' (fun i (hi:i≤vs.length) => gn_pos (H.out.2 i (by have:=HL.out; omega)))
   have HK:=hid' (And.intro (HK.out.1.trans H.out.1) (And.intro (HK.out.2.1.kept H.out.1) (And.intro (HK.out.2.2.1.kept H.out.1) (HK.out.2.2.2.kept H.out.1))))
   clear H hlt q2
   have q0:=HK.out.2.1.c0
   have q1:=HK.out.2.1.c1
   have q2:=HK.out.2.1.c2
   have q3:=HK.out.2.1.c3
   have u0:=HK.out.2.2.1.c0
   have u1:=HK.out.2.2.1.c1
   have u2:=HK.out.2.2.1.c2
   have u3:=HK.out.2.2.1.c3
   go_wp2_with fail
   refine (findM_any s 100 a1 a2 j c m c' gs vs sg nA b1 b2 k1 c1 k2 c2 an ad _ hs (HS.out.1.kept HK.out.1) (HS.out.2.1.kept HK.out.1) hn hm (HS.out.2.2.1.kept HK.out.1) (HS.out.2.2.2.1.kept HK.out.1) HLN.out.1 HLN.out.2.1).mono ?_
   rintro e w4 ⟨hk4',z,f,rfl,hF⟩
   obtain ⟨rfl,hz⟩:=find_ok HOK.out.symm HR.out.1 hF
   obtain ⟨cu,hcu⟩:∃ cu,cu = cntA (M.int sg an) (M.val ad) vs:=⟨_,rfl⟩
   rw [← hcu] at hz
   subst hz
   have HCU:=hid' hcu
   have HK:=hid' (And.intro (HK.out.1.trans hk4') (And.intro (HK.out.2.1.kept hk4') (And.intro (HK.out.2.2.1.kept hk4') (HK.out.2.2.2.kept hk4'))))
   clear hk4' hF hcu q0 q1 q2 q3 u0 u1 u2 u3
   have q0:=HK.out.2.1.c0
   have q1:=HK.out.2.1.c1
   have q2:=HK.out.2.1.c2
   have q3:=HK.out.2.1.c3
   have u0:=HK.out.2.2.2.c0
   have u1:=HK.out.2.2.2.c1
   have u2:=HK.out.2.2.2.c2
   have u3:=HK.out.2.2.2.c3
   go_wp2_with fail
   refine (findM_any s 100 a1 a2 j c m c' gs vs sh nB e1 e2 k3 c3 k4 c4 bn bd _ hs (HS.out.1.kept HK.out.1) (HS.out.2.1.kept HK.out.1) hn hm (HS.out.2.2.2.2.1.kept HK.out.1) (HS.out.2.2.2.2.2.kept HK.out.1) HLN.out.2.2.1 HLN.out.2.2.2.1).mono ?_
   rintro e w5 ⟨hk5',z,f,rfl,hF⟩
   obtain ⟨rfl,hz⟩:=find_ok HOK.out.symm HR.out.2 hF
   obtain ⟨cv,hcv⟩:∃ cv,cv = cntA (M.int sh bn) (M.val bd) vs:=⟨_,rfl⟩
   rw [← hcv] at hz
   subst hz
   have HCV:=hid' hcv
   have HK:=hid' (And.intro (HK.out.1.trans hk5') (And.intro (HK.out.2.1.kept hk5') (And.intro (HK.out.2.2.1.kept hk5') (HK.out.2.2.2.kept hk5'))))
   clear hk5' hF hcv q0 q1 q2 q3 u0 u1 u2 u3
   have HC:=hid' (show cu < gs.length∧cv < gs.length by
    have e1:=(cntA_spec (M.int sg an) (M.val ad) vs).1
    have e2:=(cntA_spec (M.int sh bn) (M.val bd) vs).1
    rw [← HCU.out] at e1
    rw [← HCV.out] at e2
    have:=HL.out
    omega)
   have q0:=HK.out.2.1.c0
   have q1:=HK.out.2.1.c1
   have q2:=HK.out.2.1.c2
   have q3:=HK.out.2.1.c3
   go_wp2_with fail
   refine (partM_any s 100 a1 a2 j c m c' gs vs (cu:Int) _ hs (HS.out.1.kept HK.out.1) (HS.out.2.1.kept HK.out.1) hn hm).mono ?_
   rintro e w6 ⟨hk6',hP⟩
   rw [refM_ok HOK.out.symm HC.out.1] at hP
   rcases hP with ⟨h0,_⟩ | ⟨_,ug,uc,rfl,tg,tc⟩
   ·
    exact absurd rfl h0
   rw [Int.toNat_natCast] at tg tc
   obtain ⟨g0,g1,g2,g3,g4,g5,g6,rfl⟩:=tg.shape
   obtain ⟨y0,y1,y2,y3,y4,y5,y6,rfl⟩:=tc.shape
   have HT:=hid' (And.intro tg.rs tc.rs)
   have HK:=hid' (And.intro (HK.out.1.trans hk6') (And.intro (HK.out.2.1.kept hk6') (And.intro (HK.out.2.2.1.kept hk6') (HK.out.2.2.2.kept hk6'))))
   clear hk6' tg tc q0 q1 q2 q3
   go_upto_region 14 with fail
   have hG1:=(F.RRow.alloc w6 (.bool g0) (.slice g1 g3 g4) (.bool false) (.slice g2 g5 g6)).kept ((Kept.refl (w6.alloc (.cells #[.bool g0,.slice g1 g3 g4,.bool false,.slice g2 g5 g6] 29))).alloc (.cells #[.bool y0,.slice y1 y3 y4,.bool false,.slice y2 y5 y6] 29))
   have hC1:=F.RRow.alloc (w6.alloc (.cells #[.bool g0,.slice g1 g3 g4,.bool false,.slice g2 g5 g6] 29)) (.bool y0) (.slice y1 y3 y4) (.bool false) (.slice y2 y5 y6)
   have kA:=(((Kept.refl w6).alloc (.cells #[.bool g0,.slice g1 g3 g4,.bool false,.slice g2 g5 g6] 29)).alloc (.cells #[.bool y0,.slice y1 y3 y4,.bool false,.slice y2 y5 y6] 29))
   simp only [World.size_alloc] at hC1
   generalize (w6.alloc (.cells #[.bool g0,.slice g1 g3 g4,.bool false,.slice g2 g5 g6] 29)).alloc (.cells #[.bool y0,.slice y1 y3 y4,.bool false,.slice y2 y5 y6] 29) = W6 at hG1 hC1 kA ⊢
   obtain ⟨pc,hqpc⟩:∃ q,q = w6.heap.size + 1:=⟨_,rfl⟩
   rw [← hqpc] at hC1 ⊢
   obtain ⟨pg,hqpg⟩:∃ q,q = w6.heap.size:=⟨_,rfl⟩
   rw [← hqpg] at hG1 ⊢
   clear hqpg hqpc
   have HT:=hid' (And.intro (HT.out.1.kept kA) (And.intro (HT.out.2.kept kA) (And.intro hG1 hC1)))
   have HK:=hid' (And.intro (HK.out.1.trans kA) (And.intro (HK.out.2.1.kept kA) (And.intro (HK.out.2.2.1.kept kA) (HK.out.2.2.2.kept kA))))
   clear kA hG1 hC1
   have q0:=HK.out.2.1.c0
   have q1:=HK.out.2.1.c1
   have q2:=HK.out.2.1.c2
   have q3:=HK.out.2.1.c3
   go_wp2_with fail
   refine (partM_any s 100 a1 a2 j c m c' gs vs (cv:Int) _ hs (HS.out.1.kept HK.out.1) (HS.out.2.1.kept HK.out.1) hn hm).mono ?_
   rintro e w7 ⟨hk7',hP⟩
   rw [refM_ok HOK.out.symm HC.out.2] at hP
   rcases hP with ⟨h0,_⟩ | ⟨_,up,ud,rfl,tp,td⟩
   ·
    exact absurd rfl h0
   rw [Int.toNat_natCast] at tp td
   obtain ⟨p0,p1,p2,p3,p4,p5,p6,rfl⟩:=tp.shape
   obtain ⟨d0,d1,d2,d3,d4,d5,d6,rfl⟩:=td.shape
   have HTP:=hid' (And.intro tp.rs td.rs)
   have HT:=hid' (And.intro (HT.out.1.kept hk7') (And.intro (HT.out.2.1.kept hk7') (And.intro (HT.out.2.2.1.kept hk7') (HT.out.2.2.2.kept hk7'))))
   have HK:=hid' (And.intro (HK.out.1.trans hk7') (And.intro (HK.out.2.1.kept hk7') (And.intro (HK.out.2.2.1.kept hk7') (HK.out.2.2.2.kept hk7'))))
   clear hk7' tp td q0 q1 q2 q3
   go_upto_region 15 with fail
   have hP1:=(F.RRow.alloc w7 (.bool p0) (.slice p1 p3 p4) (.bool false) (.slice p2 p5 p6)).kept ((Kept.refl (w7.alloc (.cells #[.bool p0,.slice p1 p3 p4,.bool false,.slice p2 p5 p6] 29))).alloc (.cells #[.bool d0,.slice d1 d3 d4,.bool false,.slice d2 d5 d6] 29))
   have hD1:=F.RRow.alloc (w7.alloc (.cells #[.bool p0,.slice p1 p3 p4,.bool false,.slice p2 p5 p6] 29)) (.bool d0) (.slice d1 d3 d4) (.bool false) (.slice d2 d5 d6)
   have kA:=(((Kept.refl w7).alloc (.cells #[.bool p0,.slice p1 p3 p4,.bool false,.slice p2 p5 p6] 29)).alloc (.cells #[.bool d0,.slice d1 d3 d4,.bool false,.slice d2 d5 d6] 29))
   simp only [World.size_alloc] at hD1
   generalize (w7.alloc (.cells #[.bool p0,.slice p1 p3 p4,.bool false,.slice p2 p5 p6] 29)).alloc (.cells #[.bool d0,.slice d1 d3 d4,.bool false,.slice d2 d5 d6] 29) = W7 at hP1 hD1 kA ⊢
   obtain ⟨pd,hqpd⟩:∃ q,q = w7.heap.size + 1:=⟨_,rfl⟩
   rw [← hqpd] at hD1 ⊢
   obtain ⟨pp,hqpp⟩:∃ q,q = w7.heap.size:=⟨_,rfl⟩
   rw [← hqpp] at hP1 ⊢
   clear hqpp hqpd
   have HT:=hid' (And.intro (HT.out.1.kept kA) (And.intro (HT.out.2.1.kept kA) (And.intro (HT.out.2.2.1.kept kA) (HT.out.2.2.2.kept kA))))
   have HTP:=hid' (And.intro (HTP.out.1.kept kA) (And.intro (HTP.out.2.kept kA) (And.intro hP1 hD1)))
   have HK:=hid' (And.intro (HK.out.1.trans kA) (And.intro (HK.out.2.1.kept kA) (And.intro (HK.out.2.2.1.kept kA) (HK.out.2.2.2.kept kA))))
   clear kA hP1 hD1
   have u0:=HK.out.2.2.1.c0
   have u1:=HK.out.2.2.1.c1
   have u2:=HK.out.2.2.1.c2
   have u3:=HK.out.2.2.1.c3
   have v0:=HK.out.2.2.2.c0
   have v1:=HK.out.2.2.2.c1
   have v2:=HK.out.2.2.2.c2
   have v3:=HK.out.2.2.2.c3
   go_wp2_with fail
   refine (rs_cmp _ (rs_right (HS.out.2.2.1.kept HK.out.1) (HS.out.2.2.2.1.kept HK.out.1) HR.out.1) (rs_right (HS.out.2.2.2.2.1.kept HK.out.1) (HS.out.2.2.2.2.2.kept HK.out.1) HR.out.2) HR.out.1.vpos HR.out.2.vpos).mono ?_
   rintro e w8 ⟨hk8',rfl⟩
   obtain ⟨sa,hsa⟩:∃ sa,sa = isgn (M.int sg an * (M.val bd:Int)) (M.int sh bn * (M.val ad:Int)):=⟨_,rfl⟩
   rw [← hsa]
   have HSA:=hid' hsa
   have HT:=hid' (And.intro (HT.out.1.kept hk8') (And.intro (HT.out.2.1.kept hk8') (And.intro (HT.out.2.2.1.kept hk8') (HT.out.2.2.2.kept hk8'))))
   have HTP:=hid' (And.intro (HTP.out.1.kept hk8') (And.intro (HTP.out.2.1.kept hk8') (And.intro (HTP.out.2.2.1.kept hk8') (HTP.out.2.2.2.kept hk8'))))
   have HK:=hid' (And.intro (HK.out.1.trans hk8') (And.intro (HK.out.2.1.kept hk8') (And.intro (HK.out.2.2.1.kept hk8') (HK.out.2.2.2.kept hk8'))))
   clear hk8' hsa u0 u1 u2 u3 v0 v1 v2 v3
   have HB1:=hid' (line_bd (bd_gs HOA.out.1 HC.out.1) (bd_own HOA.out HC.out.1) (bd_x (HS.out.2.2.1.1) (by have:=HZ.out; have:=HL0.out.2; omega) sg) (bd_t (HS.out.2.2.2.1.1) (by have:=HZ.out; have:=HL0.out.2; omega)))
   have HB2:=hid' (line_bd (bd_gs HOA.out.1 HC.out.2) (bd_own HOA.out HC.out.2) (bd_x (HS.out.2.2.2.2.1.1) (by have:=HZ.out; have:=HL0.out.2; omega) sh) (bd_t (HS.out.2.2.2.2.2.1) (by have:=HZ.out; have:=HL0.out.2; omega)))
   have sS:=hid' (fun (V:World) (K:Kept w8 V) => (show V.cell? ⟨pg,0,none⟩ = some (.bool g0)∧V.cell? ⟨pg,1,none⟩ = some (.slice g1 g3 g4)∧V.cell? ⟨pg,2,none⟩ = some (.bool false)∧V.cell? ⟨pg,3,none⟩ = some (.slice g2 g5 g6)∧V.cell? ⟨pc,0,none⟩ = some (.bool y0)∧V.cell? ⟨pc,1,none⟩ = some (.slice y1 y3 y4)∧V.cell? ⟨pc,2,none⟩ = some (.bool false)∧V.cell? ⟨pc,3,none⟩ = some (.slice y2 y5 y6)∧V.cell? ⟨q1,0,none⟩ = some (.bool sg)∧V.cell? ⟨q1,1,none⟩ = some (.slice b1 k1 c1)∧V.cell? ⟨q1,2,none⟩ = some (.bool nA)∧V.cell? ⟨q1,3,none⟩ = some (.slice b2 k2 c2)∧V.cell? ⟨pp,0,none⟩ = some (.bool p0)∧V.cell? ⟨pp,1,none⟩ = some (.slice p1 p3 p4)∧V.cell? ⟨pp,2,none⟩ = some (.bool false)∧V.cell? ⟨pp,3,none⟩ = some (.slice p2 p5 p6)∧V.cell? ⟨pd,0,none⟩ = some (.bool d0)∧V.cell? ⟨pd,1,none⟩ = some (.slice d1 d3 d4)∧V.cell? ⟨pd,2,none⟩ = some (.bool false)∧V.cell? ⟨pd,3,none⟩ = some (.slice d2 d5 d6)∧V.cell? ⟨q2,0,none⟩ = some (.bool sh)∧V.cell? ⟨q2,1,none⟩ = some (.slice e1 k3 c3)∧V.cell? ⟨q2,2,none⟩ = some (.bool nB)∧V.cell? ⟨q2,3,none⟩ = some (.slice e2 k4 c4) from by
    have r1:=HT.out.2.2.1.kept K
    have r2:=HT.out.2.2.2.kept K
    have r3:=HK.out.2.2.1.kept K
    have r4:=HTP.out.2.2.1.kept K
    have r5:=HTP.out.2.2.2.kept K
    have r6:=HK.out.2.2.2.kept K
    exact ⟨r1.c0,r1.c1,r1.c2,r1.c3,r2.c0,r2.c1,r2.c2,r2.c3,r3.c0,r3.c1,r3.c2,r3.c3,r4.c0,r4.c1,r4.c2,r4.c3,r5.c0,r5.c1,r5.c2,r5.c3,r6.c0,r6.c1,r6.c2,r6.c3⟩))
   go_upto_region 18 with fail
   have KR:Kept w8 w8.drew:=(Kept.refl _).drew
   refine wp_region_held_drew (S:=fun w' => w'.cell? ⟨pg,0,none⟩ = some (.bool g0)∧w'.cell? ⟨pg,1,none⟩ = some (.slice g1 g3 g4)∧w'.cell? ⟨pg,2,none⟩ = some (.bool false)∧w'.cell? ⟨pg,3,none⟩ = some (.slice g2 g5 g6)∧w'.cell? ⟨pc,0,none⟩ = some (.bool y0)∧w'.cell? ⟨pc,1,none⟩ = some (.slice y1 y3 y4)∧w'.cell? ⟨pc,2,none⟩ = some (.bool false)∧w'.cell? ⟨pc,3,none⟩ = some (.slice y2 y5 y6)∧w'.cell? ⟨q1,0,none⟩ = some (.bool sg)∧w'.cell? ⟨q1,1,none⟩ = some (.slice b1 k1 c1)∧w'.cell? ⟨q1,2,none⟩ = some (.bool nA)∧w'.cell? ⟨q1,3,none⟩ = some (.slice b2 k2 c2)∧w'.cell? ⟨pp,0,none⟩ = some (.bool p0)∧w'.cell? ⟨pp,1,none⟩ = some (.slice p1 p3 p4)∧w'.cell? ⟨pp,2,none⟩ = some (.bool false)∧w'.cell? ⟨pp,3,none⟩ = some (.slice p2 p5 p6)∧w'.cell? ⟨pd,0,none⟩ = some (.bool d0)∧w'.cell? ⟨pd,1,none⟩ = some (.slice d1 d3 d4)∧w'.cell? ⟨pd,2,none⟩ = some (.bool false)∧w'.cell? ⟨pd,3,none⟩ = some (.slice d2 d5 d6)∧w'.cell? ⟨q2,0,none⟩ = some (.bool sh)∧w'.cell? ⟨q2,1,none⟩ = some (.slice e1 k3 c3)∧w'.cell? ⟨q2,2,none⟩ = some (.bool nB)∧w'.cell? ⟨q2,3,none⟩ = some (.slice e2 k4 c4)) (by kernel_rfl) (sS.out _ KR) (fun hHeld => ?_)
   generalize w8.drew = Wd at KR hHeld ⊢
   refine take1 (i:=0) (v:=?vh1) rfl rfl (by kernel_rfl) (by kernel_rfl) (by kernel_rfl) (fun _ _ _ h => h) (Or.inl ⟨by kernel_rfl,?yh1⟩) hHeld ?rh1
   case yh1 =>
    intro w' hSw
    obtain ⟨hSw0,hSw1,hSw2,hSw3,hSw4,hSw5,hSw6,hSw7,hSw8,hSw9,hSw10,hSw11,hSw12,hSw13,hSw14,hSw15,hSw16,hSw17,hSw18,hSw19,hSw20,hSw21,hSw22,hSw23⟩:=hSw
    go_simp
    with_reducible rfl
   case rh1 =>
   simp only [List.set_cons_zero,List.set_cons_succ]
   refine take1 (i:=1) (v:=?vh2) rfl rfl (by kernel_rfl) (by kernel_rfl) (by kernel_rfl) (fun _ _ _ h => h) (Or.inl ⟨by kernel_rfl,?yh2⟩) hHeld ?rh2
   case yh2 =>
    intro w' hSw
    obtain ⟨hSw0,hSw1,hSw2,hSw3,hSw4,hSw5,hSw6,hSw7,hSw8,hSw9,hSw10,hSw11,hSw12,hSw13,hSw14,hSw15,hSw16,hSw17,hSw18,hSw19,hSw20,hSw21,hSw22,hSw23⟩:=hSw
    go_simp
    with_reducible rfl
   case rh2 =>
   simp only [List.set_cons_zero,List.set_cons_succ]
   refine take1 (i:=2) (v:=?vh3) rfl rfl (by kernel_rfl) (by kernel_rfl) (by kernel_rfl) (fun _ _ _ h => h) (Or.inl ⟨by kernel_rfl,?yh3⟩) hHeld ?rh3
   case yh3 =>
    intro w' hSw
    obtain ⟨hSw0,hSw1,hSw2,hSw3,hSw4,hSw5,hSw6,hSw7,hSw8,hSw9,hSw10,hSw11,hSw12,hSw13,hSw14,hSw15,hSw16,hSw17,hSw18,hSw19,hSw20,hSw21,hSw22,hSw23⟩:=hSw
    go_simp
    with_reducible rfl
   case rh3 =>
   simp only [List.set_cons_zero,List.set_cons_succ]
   refine take1 (i:=4) (v:=?vh4) rfl rfl (by kernel_rfl) (by kernel_rfl) (by kernel_rfl) (fun _ _ _ h => h) (Or.inl ⟨by kernel_rfl,?yh4⟩) hHeld ?rh4
   case yh4 =>
    intro w' hSw
    obtain ⟨hSw0,hSw1,hSw2,hSw3,hSw4,hSw5,hSw6,hSw7,hSw8,hSw9,hSw10,hSw11,hSw12,hSw13,hSw14,hSw15,hSw16,hSw17,hSw18,hSw19,hSw20,hSw21,hSw22,hSw23⟩:=hSw
    go_simp
    with_reducible rfl
   case rh4 =>
   simp only [List.set_cons_zero,List.set_cons_succ]
   refine take1 (i:=5) (v:=?vh5) rfl rfl (by kernel_rfl) (by kernel_rfl) (by kernel_rfl) (fun _ _ _ h => h) (Or.inl ⟨by kernel_rfl,?yh5⟩) hHeld ?rh5
   case yh5 =>
    intro w' hSw
    obtain ⟨hSw0,hSw1,hSw2,hSw3,hSw4,hSw5,hSw6,hSw7,hSw8,hSw9,hSw10,hSw11,hSw12,hSw13,hSw14,hSw15,hSw16,hSw17,hSw18,hSw19,hSw20,hSw21,hSw22,hSw23⟩:=hSw
    go_simp
    with_reducible rfl
   case rh5 =>
   simp only [List.set_cons_zero,List.set_cons_succ]
   refine take1 (i:=6) (v:=?vh6) rfl rfl (by kernel_rfl) (by kernel_rfl) (by kernel_rfl) (fun _ _ _ h => h) (Or.inl ⟨by kernel_rfl,?yh6⟩) hHeld ?rh6
   case yh6 =>
    intro w' hSw
    obtain ⟨hSw0,hSw1,hSw2,hSw3,hSw4,hSw5,hSw6,hSw7,hSw8,hSw9,hSw10,hSw11,hSw12,hSw13,hSw14,hSw15,hSw16,hSw17,hSw18,hSw19,hSw20,hSw21,hSw22,hSw23⟩:=hSw
    go_simp
    with_reducible rfl
   case rh6 =>
   simp only [List.set_cons_zero,List.set_cons_succ]
   refine ready1 (i:=3) (by kernel_rfl) rfl (by kernel_rfl) (fun K hK => ?_)
   go_simp
   refine (line_any _ (HT.out.1.kept KR) (own100 (HT.out.2.1.kept KR)) (rs_right (HS.out.2.2.1.kept (HK.out.1.trans KR)) (HS.out.2.2.2.1.kept (HK.out.1.trans KR)) HR.out.1) HR.out.1.vpos HB1.out.1 HB1.out.2.1 HB1.out.2.2.1 HB1.out.2.2.2).mono ?_
   rintro e w9 ⟨hk9',uu,rfl,tu⟩
   have KR:=KR.trans hk9'
   refine hK.out _ _ (sS.out _ KR) (fun hHeld => ?_)
   clear hK K hk9'
   refine ready1 (i:=7) (by kernel_rfl) rfl (by kernel_rfl) (fun K hK => ?_)
   go_simp
   refine (line_any _ (HTP.out.1.kept KR) (own100 (HTP.out.2.1.kept KR)) (rs_right (HS.out.2.2.2.2.1.kept (HK.out.1.trans KR)) (HS.out.2.2.2.2.2.kept (HK.out.1.trans KR)) HR.out.2) HR.out.2.vpos HB2.out.1 HB2.out.2.1 HB2.out.2.2.1 HB2.out.2.2.2).mono ?_
   rintro e wa ⟨hka,uv,rfl,tv⟩
   have KR:=KR.trans hka
   have tu:=tu.kept hka
   refine hK.out _ _ (sS.out _ KR) (fun hHeld => ?_)
   clear hK K hka
   refine ready1 (i:=8) (by kernel_rfl) rfl (by kernel_rfl) (fun K hK => ?_)
   go_simp
   refine (rs_cmp _ tu.rs tv.rs (Nat.mul_pos (by decide) HR.out.1.vpos) (Nat.mul_pos (by decide) HR.out.2.vpos)).mono ?_
   rintro e wb ⟨hkb,rfl⟩
   have KR:=KR.trans hkb
   obtain ⟨sb,hsb⟩:∃ sb,sb = isgn ((U (gs.getD cu (0,0)).1 (gs.getD cu (0,0)).2 * M.int sg an * 10 ^ 36 + ownS gs vs cu * (M.val ad:Int)) * ((10 ^ 54 * M.val bd:Nat):Int)) ((U (gs.getD cv (0,0)).1 (gs.getD cv (0,0)).2 * M.int sh bn * 10 ^ 36 + ownS gs vs cv * (M.val bd:Int)) * ((10 ^ 54 * M.val ad:Nat):Int)):=⟨_,rfl⟩
   rw [← hsb]
   have HSB:=hid' (rise_sgn HOA.out.2.2.1 HP.out HR.out.1.vpos HR.out.2.vpos HCU.out HCV.out HSA.out hsb)
   refine hK.out _ _ (sS.out _ KR) (fun hHeld => ?_)
   clear hK K hkb tu tv hsb
   refine take1 (i:=9) (v:=?vh7) rfl rfl (by kernel_rfl) (by kernel_rfl) (by kernel_rfl) (fun _ _ _ h => h) (Or.inl ⟨by kernel_rfl,?yh7⟩) hHeld ?rh7
   case yh7 =>
    intro w' hSw
    obtain ⟨hSw0,hSw1,hSw2,hSw3,hSw4,hSw5,hSw6,hSw7,hSw8,hSw9,hSw10,hSw11,hSw12,hSw13,hSw14,hSw15,hSw16,hSw17,hSw18,hSw19,hSw20,hSw21,hSw22,hSw23⟩:=hSw
    go_simp
    with_reducible rfl
   case rh7 =>
   simp only [List.set_cons_zero,List.set_cons_succ]
   refine take1 (i:=10) (v:=?vh8) rfl rfl (by kernel_rfl) (by kernel_rfl) (by kernel_rfl) (fun _ _ _ h => h) (Or.inl ⟨by kernel_rfl,?yh8⟩) hHeld ?rh8
   case yh8 =>
    intro w' hSw
    obtain ⟨hSw0,hSw1,hSw2,hSw3,hSw4,hSw5,hSw6,hSw7,hSw8,hSw9,hSw10,hSw11,hSw12,hSw13,hSw14,hSw15,hSw16,hSw17,hSw18,hSw19,hSw20,hSw21,hSw22,hSw23⟩:=hSw
    go_simp
    with_reducible rfl
   case rh8 =>
   simp only [List.set_cons_zero,List.set_cons_succ]
   refine take1 (i:=11) (v:=?vh9) rfl rfl (by kernel_rfl) (by kernel_rfl) (by kernel_rfl) (fun _ _ _ h => h) (Or.inl ⟨by kernel_rfl,?yh9⟩) hHeld ?rh9
   case yh9 =>
    intro w' hSw
    obtain ⟨hSw0,hSw1,hSw2,hSw3,hSw4,hSw5,hSw6,hSw7,hSw8,hSw9,hSw10,hSw11,hSw12,hSw13,hSw14,hSw15,hSw16,hSw17,hSw18,hSw19,hSw20,hSw21,hSw22,hSw23⟩:=hSw
    go_simp
    with_reducible rfl
   case rh9 =>
   simp only [List.set_cons_zero,List.set_cons_succ]
   refine take1 (i:=12) (v:=?vh10) rfl rfl (by kernel_rfl) (by kernel_rfl) (by kernel_rfl) (fun _ _ _ h => h) (Or.inl ⟨by kernel_rfl,?yh10⟩) hHeld ?rh10
   case yh10 =>
    intro w' hSw
    obtain ⟨hSw0,hSw1,hSw2,hSw3,hSw4,hSw5,hSw6,hSw7,hSw8,hSw9,hSw10,hSw11,hSw12,hSw13,hSw14,hSw15,hSw16,hSw17,hSw18,hSw19,hSw20,hSw21,hSw22,hSw23⟩:=hSw
    go_simp
    with_reducible rfl
   case rh10 =>
   simp only [List.set_cons_zero,List.set_cons_succ]
   refine take1 (i:=13) (v:=?vh11) rfl rfl (by kernel_rfl) (by kernel_rfl) (by kernel_rfl) (fun _ _ _ h => h) (Or.inl ⟨by kernel_rfl,?yh11⟩) hHeld ?rh11
   case yh11 =>
    intro w' hSw
    obtain ⟨hSw0,hSw1,hSw2,hSw3,hSw4,hSw5,hSw6,hSw7,hSw8,hSw9,hSw10,hSw11,hSw12,hSw13,hSw14,hSw15,hSw16,hSw17,hSw18,hSw19,hSw20,hSw21,hSw22,hSw23⟩:=hSw
    go_simp
    with_reducible rfl
   case rh11 =>
   simp only [List.set_cons_zero,List.set_cons_succ]
   refine wpAnyH_done (by kernel_rfl) ?_ _
   have HK2:=hid' (HK.out.1.trans KR)
   clear hHeld KR sS
   rcases HSB.out with ⟨r1,r2⟩ | ⟨r1,r2⟩ | ⟨r1,r2⟩
   ·
    subst r1
    subst r2
    go_wp2_with fail
    go_ret
    exact ⟨HK2.out,rfl⟩
   ·
    have r3:(sa == 0) = false:=by simp; omega
    go_wp2_with fail
    go_ret
    exact ⟨HK2.out,rfl⟩
   ·
    have r3:(sa == 0) = false:=by simp; omega
    have r4:¬ sa < 0:=by omega
    go_wp2_with fail
    go_ret
    exact ⟨HK2.out,rfl⟩
end V
end Go.Proofs.YthfbfbfambbkaaaGreatDoor
