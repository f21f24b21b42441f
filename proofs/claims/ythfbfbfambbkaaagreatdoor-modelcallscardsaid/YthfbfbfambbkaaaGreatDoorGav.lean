/- Lemmas. -/
import Derived.Test.YthfbfbfambbkaaaGreatDoorGas
import Derived.Test.YthfbfbfambbkaaaGreatDoorOc3
import Derived.Test.YthfbfbfambbkaaaGreatDoorGat
import Derived.Test.YthfbfbfambbkaaaGreatDoorTxg
import Derived.Test.YthfbfbfambbkaaaGreatDoorTk
import Derived.Test.YthfbfbfambbkaaaGreatDoorGau
namespace Go.Proofs.YthfbfbfambbkaaaGreatDoor
open Go.RowKit
namespace V
open Q (hid' Row3 Row2 okN okN_bd Scl RQ)
theorem rowM (t:TypeId) (w:World) (xs:Array Value):(w.alloc (.cells xs t)).rowIs w.heap.size t xs.size (fun i => xs.getD i (.bool false)) :=
 World.rowIs_alloc w xs t _ (fun i hi => by simp [Array.getD,hi])
theorem rt_is {B:Nat} {w:World} {v:Value} {A N':Int} {S D':Nat} (h:RT B w v A S) (hS:0 < S) (hD:0 < D') (hc:Nat.gcd N'.natAbs D' = 1) (he:N' * (S:Int) = A * D'):RQ B w v N' D':=by
 obtain ⟨N,D,q,e⟩:=h
 have hl:=q.low
 have key:N * (D':Int) = N' * D:=by
  apply Int.eq_of_mul_eq_mul_right (show (S:Int) ≠ 0 by omega)
  calc N * D' * S = N * S * D':=Int.mul_right_comm _ _ _
   _ = A * D * D':=by rw [e]
   _ = A * D' * D:=Int.mul_right_comm _ _ _
   _ = N' * S * D:=by rw [he]
   _ = N' * D * S:=Int.mul_right_comm _ _ _
 have kn:=congrArg Int.natAbs key
 rw [Int.natAbs_mul,Int.natAbs_mul,Int.natAbs_natCast,Int.natAbs_natCast] at kn
 have d1:D ∣ D':=(Nat.Coprime.symm hl.2).dvd_of_dvd_mul_left (by rw [kn]; exact Nat.dvd_mul_left _ _)
 have d2:D' ∣ D:=(Nat.Coprime.symm (show Nat.Coprime N'.natAbs D' from hc)).dvd_of_dvd_mul_left (by rw [<- kn]; exact Nat.dvd_mul_left _ _)
 have eD:D = D':=Nat.dvd_antisymm d1 d2
 subst eD
 have eN:N = N':=Int.eq_of_mul_eq_mul_right (show (D:Int) ≠ 0 by omega) key
 subst eN
 exact q
set_option maxRecDepth 100000 in
set_option maxHeartbeats 8000000 in
theorem awakeM_any (w:World) (ht:Tab w):Calls Tryz.prog 7 #[] w fun e w' => Kept w w'/\e = .returned (.bool true):=by
 have HT:=hid' ht
 clear ht
 go_enter Tryz.func7,Tryz.ntmps7
 go_upto_region 2 with fail
 have hK:=((Kept.refl w).alloc (.cells #[.int .i64 1,.int .i64 (-6),.int .i64 1,.int .i64 (-1)] 48)).alloc (.cells #[.int .i64 7,.int .i64 (-1)] 48) |>.alloc (.cells #[.string ⟨#[100]⟩,.int .u8 100,.slice (some ⟨w.heap.size,0,none⟩) 2 2,.slice (some ⟨w.heap.size + 1,0,none⟩) 1 1] 24)
 have r1:=(rowM 48 w #[.int .i64 1,.int .i64 (-6),.int .i64 1,.int .i64 (-1)]).of_block (((Kept.refl _).alloc (.cells #[.int .i64 7,.int .i64 (-1)] 48)).block w.heap.size (rowM 48 w #[.int .i64 1,.int .i64 (-6),.int .i64 1,.int .i64 (-1)]).lt)
 have r2:=rowM 48 (w.alloc (.cells #[.int .i64 1,.int .i64 (-6),.int .i64 1,.int .i64 (-1)] 48)) #[.int .i64 7,.int .i64 (-1)]
 rw [World.size_alloc] at r2
 have hR:=Row4.alloc 24 ((w.alloc (.cells #[.int .i64 1,.int .i64 (-6),.int .i64 1,.int .i64 (-1)] 48)).alloc (.cells #[.int .i64 7,.int .i64 (-1)] 48)) (.string ⟨#[100]⟩) (.int .u8 100) (.slice (some ⟨w.heap.size,0,none⟩) 2 2) (.slice (some ⟨w.heap.size + 1,0,none⟩) 1 1)
 simp only [World.size_alloc] at hR
 have hK3:=(Kept.refl ((w.alloc (.cells #[.int .i64 1,.int .i64 (-6),.int .i64 1,.int .i64 (-1)] 48)).alloc (.cells #[.int .i64 7,.int .i64 (-1)] 48))).alloc (.cells #[.string ⟨#[100]⟩,.int .u8 100,.slice (some ⟨w.heap.size,0,none⟩) 2 2,.slice (some ⟨w.heap.size + 1,0,none⟩) 1 1] 24)
 have hG:NSl ((w.alloc (.cells #[.int .i64 1,.int .i64 (-6),.int .i64 1,.int .i64 (-1)] 48)).alloc (.cells #[.int .i64 7,.int .i64 (-1)] 48)) (.slice (some ⟨w.heap.size,0,none⟩) 2 2) [((1:Int),(-6:Int)),(1,-1)]:=⟨_,2,rfl,fun _ => ⟨w.heap.size,0,rfl,r1.lt,fun j hj => by
  match j,hj with
  | 0,_ => exact ⟨r1.cell (i:=0) (show 0 < 4 by decide),r1.cell (i:=1) (show 1 < 4 by decide)⟩
  | 1,_ => exact ⟨r1.cell (i:=2) (show 2 < 4 by decide),r1.cell (i:=3) (show 3 < 4 by decide)⟩⟩⟩
 have hV:NSl ((w.alloc (.cells #[.int .i64 1,.int .i64 (-6),.int .i64 1,.int .i64 (-1)] 48)).alloc (.cells #[.int .i64 7,.int .i64 (-1)] 48)) (.slice (some ⟨w.heap.size + 1,0,none⟩) 1 1) [((7:Int),(-1:Int))]:=⟨_,1,rfl,fun _ => ⟨w.heap.size + 1,0,rfl,r2.lt,fun j hj => by
  match j,hj with
  | 0,_ => exact ⟨r2.cell (i:=0) (show 0 < 2 by decide),r2.cell (i:=1) (show 1 < 2 by decide)⟩⟩⟩
 have hG:=hG.kept hK3
 have hV:=hV.kept hK3
 clear r1 r2 hK3
 generalize ((w.alloc (.cells #[.int .i64 1,.int .i64 (-6),.int .i64 1,.int .i64 (-1)] 48)).alloc (.cells #[.int .i64 7,.int .i64 (-1)] 48)).alloc (.cells #[.string ⟨#[100]⟩,.int .u8 100,.slice (some ⟨w.heap.size,0,none⟩) 2 2,.slice (some ⟨w.heap.size + 1,0,none⟩) 1 1] 24) = W at hK hR hG hV ⊢
 obtain ⟨p3,hp3⟩:∃ p,p = w.heap.size + 1 + 1:=⟨_,rfl⟩
 rw [<- hp3] at hR ⊢
 obtain ⟨p2,hp2⟩:∃ p,p = w.heap.size + 1:=⟨_,rfl⟩
 rw [<- hp2] at hR hV ⊢
 obtain ⟨p1,hp1⟩:∃ p,p = w.heap.size:=⟨_,rfl⟩
 rw [<- hp1] at hR hG ⊢
 clear hp1 hp2 hp3
 have HK:=hid' (And.intro hK hR)
 have HN:=hid' (And.intro hG hV)
 have q0:=hR.c0
 have q1:=hR.c1
 have q2:=hR.c2
 have q3:=hR.c3
 clear hK hR hG hV
 go_wp2_with fail
 refine (partM_any ⟨#[100]⟩ 100 _ _ 2 2 1 1 [((1:Int),(-6:Int)),(1,-1)] [((7:Int),(-1:Int))] 1 _ (by decide) HN.out.1 HN.out.2 (by decide) (by decide)).mono ?_
 rintro e w1 ⟨hk1,hP⟩
 rcases hP with ⟨h0,_⟩ | ⟨_,u,v,rfl,ru,rv⟩
 ·
  exact absurd (show refM [100] 100 [((1:Int),(-6:Int)),(1,-1)] [((7:Int),(-1:Int))] 1 = 0 by kernel_rfl) h0
 have ru:=rt_is (N':=1) (D':=10) ru (by decide) (by decide) (by decide) (by decide +kernel)
 have rv:=rt_is (N':=-69999300) (D':=1) rv (by decide) (by decide) (by decide) (by decide +kernel)
 obtain ⟨g0,g1,g2,g3,g4,g5,g6,gl,gl',rfl,gn1,gn2,gr,gi,gv⟩:=ru
 obtain ⟨c0,c1,c2,c3,c4,c5,c6,cl,cl',rfl,cn1,cn2,cr,ci,cv⟩:=rv
 obtain ⟨_,rfl⟩:=F.one_limb (x:=10) (gr.rd.right gn2.sl.1) (by rw [show M.int false gl' = (M.val gl':Int) by simp [M.int],gv]) (by decide) (by decide)
 obtain ⟨rfl,rfl⟩:=F.one_limb' (x:=69999300) (cr.ra.right cn1.sl.1) (by rw [ci]; rfl) (by decide) (by decide)
 have HGC:=hid' (And.intro gn2.sl (And.intro cn1.sl cr.ra))
 have HK:=hid' (And.intro (HK.out.1.trans hk1) (HK.out.2.kept hk1))
 have HN:=hid' (And.intro (HN.out.1.kept hk1) (HN.out.2.kept hk1))
 clear hk1 q0 q1 q2 q3 gn1 gn2 gr gi gv cn1 cn2 cr ci cv
 go_upto_region 3 with fail
 have hG1:=(F.RRow.alloc w1 (.bool g0) (.slice g1 g3 g4) (.bool false) (.slice g2 g5 g6)).kept ((Kept.refl (w1.alloc (.cells #[.bool g0,.slice g1 g3 g4,.bool false,.slice g2 g5 g6] 29))).alloc (.cells #[.bool true,.slice c1 c3 c4,.bool false,.slice c2 c5 c6] 29))
 have hC1:=F.RRow.alloc (w1.alloc (.cells #[.bool g0,.slice g1 g3 g4,.bool false,.slice g2 g5 g6] 29)) (.bool true) (.slice c1 c3 c4) (.bool false) (.slice c2 c5 c6)
 have kA:=(((Kept.refl w1).alloc (.cells #[.bool g0,.slice g1 g3 g4,.bool false,.slice g2 g5 g6] 29)).alloc (.cells #[.bool true,.slice c1 c3 c4,.bool false,.slice c2 c5 c6] 29))
 simp only [World.size_alloc] at hC1
 generalize (w1.alloc (.cells #[.bool g0,.slice g1 g3 g4,.bool false,.slice g2 g5 g6] 29)).alloc (.cells #[.bool true,.slice c1 c3 c4,.bool false,.slice c2 c5 c6] 29) = W1 at hG1 hC1 kA ⊢
 obtain ⟨pc,hqpc⟩:∃ q,q = w1.heap.size + 1:=⟨_,rfl⟩
 rw [<- hqpc] at hC1 ⊢
 obtain ⟨pg,hqpg⟩:∃ q,q = w1.heap.size:=⟨_,rfl⟩
 rw [<- hqpg] at hG1 ⊢
 clear hqpg hqpc
 have HK:=hid' (And.intro (HK.out.1.trans kA) (HK.out.2.kept kA))
 have HN:=hid' (And.intro (HN.out.1.kept kA) (HN.out.2.kept kA))
 have HGC:=hid' (And.intro (HGC.out.1.kept kA) (And.intro (HGC.out.2.1.kept kA) HGC.out.2.2))
 have HB:=hid' (And.intro hG1 hC1)
 clear kA hG1 hC1
 go_wp2_with fail
 refine (of_any 700000001 _ (by omega) (by omega)).mono ?_
 rintro e w2 ⟨hk2,s2,a2,n2,k2,l2,rfl,hn2,hr2,hv2⟩
 obtain ⟨rfl,rfl⟩:=F.one_limb (x:=700000001) hr2 hv2 (by decide) (by decide)
 have HA2:=hid' (And.intro hn2.sl (R.of_right hr2))
 have HK:=hid' (And.intro (HK.out.1.trans hk2) (HK.out.2.kept hk2))
 have HN:=hid' (And.intro (HN.out.1.kept hk2) (HN.out.2.kept hk2))
 have HGC:=hid' (And.intro (HGC.out.1.kept hk2) (And.intro (HGC.out.2.1.kept hk2) HGC.out.2.2))
 have HB:=hid' (And.intro (HB.out.1.kept hk2) (HB.out.2.kept hk2))
 clear hk2
 clear hn2 hr2 hv2
 go_wp2_with fail
 refine (of_any 1 _ (by omega) (by omega)).mono ?_
 rintro e w3 ⟨hk3,s3,a3,n3,k3,l3,rfl,hn3,hr3,hv3⟩
 obtain ⟨rfl,rfl⟩:=F.one_limb (x:=1) hr3 hv3 (by decide) (by decide)
 have HA2:=hid' (And.intro (HA2.out.1.kept hk3) HA2.out.2)
 have HA3:=hid' (And.intro hn3.sl (R.of_right hr3))
 have HK:=hid' (And.intro (HK.out.1.trans hk3) (HK.out.2.kept hk3))
 have HN:=hid' (And.intro (HN.out.1.kept hk3) (HN.out.2.kept hk3))
 have HGC:=hid' (And.intro (HGC.out.1.kept hk3) (And.intro (HGC.out.2.1.kept hk3) HGC.out.2.2))
 have HB:=hid' (And.intro (HB.out.1.kept hk3) (HB.out.2.kept hk3))
 clear hk3
 clear hn3 hr3 hv3
 go_wp2_with fail
 refine (F.Make_ok false false a2 a3 n2 k2 n3 k3 [700000001] [1] _ HA2.out.1 HA3.out.1 HA2.out.2 HA3.out.2 (by decide)).mono ?_
 rintro e w4 ⟨hk4,v,X,Y,rfl,hRN,gd,hg1,hg2,hg3,hg4⟩
 have hgd:gd = 1:=by
  have e1:gd.natAbs = 1:=by rw [hg1]; decide
  have e2:¬ gd < 0:=fun h => absurd (hg4.1 h) (by decide)
  omega
 subst hgd
 obtain ⟨t0,t1,t3,t4,tl,tn,t2,t5,t6,tl',rfl,tn1,tr1,ti1,tn2,tr2,ti2,tR⟩:=hRN
 obtain ⟨rfl,rfl⟩:=F.one_limb (x:=700000001) tr1 (by rw [ti1]; rw [Int.mul_one] at hg2; rw [hg2]; rfl) (by decide) (by decide)
 obtain ⟨rfl,rfl⟩:=F.one_limb (x:=1) tr2 (by rw [ti2]; rw [Int.mul_one] at hg3; rw [hg3]; rfl) (by decide) (by decide)
 have HU:=hid' (And.intro tn1.sl (And.intro tn2.sl tR))
 have HK:=hid' (And.intro (HK.out.1.trans hk4) (HK.out.2.kept hk4))
 have HN:=hid' (And.intro (HN.out.1.kept hk4) (HN.out.2.kept hk4))
 have HGC:=hid' (And.intro (HGC.out.1.kept hk4) (And.intro (HGC.out.2.1.kept hk4) HGC.out.2.2))
 have HB:=hid' (And.intro (HB.out.1.kept hk4) (HB.out.2.kept hk4))
 clear hk4
 clear HA2 HA3 tn1 tn2 tr1 tr2 ti1 ti2 tR hg1 hg2 hg3 hg4
 go_upto_region 4 with fail
 have hU1:=F.RRow.alloc w4 (.bool false) (.slice t1 t3 t4) (.bool false) (.slice t2 t5 t6)
 have kA:=((Kept.refl w4).alloc (.cells #[.bool false,.slice t1 t3 t4,.bool false,.slice t2 t5 t6] 29))
 generalize w4.alloc (.cells #[.bool false,.slice t1 t3 t4,.bool false,.slice t2 t5 t6] 29) = W4 at hU1 kA ⊢
 obtain ⟨pu,hqpu⟩:∃ q,q = w4.heap.size:=⟨_,rfl⟩
 rw [<- hqpu] at hU1 ⊢
 have HU:=hid' (And.intro (HU.out.1.kept kA) (And.intro (HU.out.2.1.kept kA) (And.intro HU.out.2.2 hU1)))
 have HK:=hid' (And.intro (HK.out.1.trans kA) (HK.out.2.kept kA))
 have HN:=hid' (And.intro (HN.out.1.kept kA) (HN.out.2.kept kA))
 have HGC:=hid' (And.intro (HGC.out.1.kept kA) (And.intro (HGC.out.2.1.kept kA) HGC.out.2.2))
 have HB:=hid' (And.intro (HB.out.1.kept kA) (HB.out.2.kept kA))
 clear kA
 clear hqpu hU1
 have q0:=HK.out.2.c0
 have q1:=HK.out.2.c1
 have q2:=HK.out.2.c2
 have q3:=HK.out.2.c3
 have u0:=HU.out.2.2.2.c0
 have u1:=HU.out.2.2.2.c1
 have u2:=HU.out.2.2.2.c2
 have u3:=HU.out.2.2.2.c3
 go_wp2_with fail
 refine (sideM_any ⟨#[100]⟩ 100 _ _ 2 2 1 1 [((1:Int),(-6:Int)),(1,-1)] [((7:Int),(-1:Int))] 0 false false _ _ _ _ _ _ [700000001] [1] _ (by decide) HN.out.1 HN.out.2 (by decide) (by decide) HU.out.1 HU.out.2.1 (by decide) (by decide)).mono ?_
 rintro e w5 ⟨hk5,z,f,rfl,hS⟩
 obtain ⟨rfl,hz⟩:=side_ok (s:=[100]) (k:=100) (gs:=[((1:Int),(-6:Int)),(1,-1)]) (q:=0) (by kernel_rfl) (by decide) HU.out.2.2.1 hS
 have hz':z = 1:=by rw [hz]; kernel_rfl
 subst hz'
 have HU:=hid' (And.intro (HU.out.1.kept hk5) (And.intro (HU.out.2.1.kept hk5) (And.intro HU.out.2.2.1 (HU.out.2.2.2.kept hk5))))
 have HK:=hid' (And.intro (HK.out.1.trans hk5) (HK.out.2.kept hk5))
 have HN:=hid' (And.intro (HN.out.1.kept hk5) (HN.out.2.kept hk5))
 have HGC:=hid' (And.intro (HGC.out.1.kept hk5) (And.intro (HGC.out.2.1.kept hk5) HGC.out.2.2))
 have HB:=hid' (And.intro (HB.out.1.kept hk5) (HB.out.2.kept hk5))
 clear hk5
 clear q0 q1 q2 q3 u0 u1 u2 u3 hS hz
 have q0:=HK.out.2.c0
 have q1:=HK.out.2.c1
 have q2:=HK.out.2.c2
 have q3:=HK.out.2.c3
 have u0:=HU.out.2.2.2.c0
 have u1:=HU.out.2.2.2.c1
 have u2:=HU.out.2.2.2.c2
 have u3:=HU.out.2.2.2.c3
 go_wp2_with fail
 refine (findM_any ⟨#[100]⟩ 100 _ _ 2 2 1 1 [((1:Int),(-6:Int)),(1,-1)] [((7:Int),(-1:Int))] false false _ _ _ _ _ _ [700000001] [1] _ (by decide) HN.out.1 HN.out.2 (by decide) (by decide) HU.out.1 HU.out.2.1 (by decide) (by decide)).mono ?_
 rintro e w6 ⟨hk6,z,f,rfl,hS⟩
 obtain ⟨rfl,hz⟩:=find_ok (by kernel_rfl) HU.out.2.2.1 hS
 have hz':z = 1:=by rw [hz]; kernel_rfl
 subst hz'
 have HK:=hid' (And.intro (HK.out.1.trans hk6) (HK.out.2.kept hk6))
 have HN:=hid' (And.intro (HN.out.1.kept hk6) (HN.out.2.kept hk6))
 have HGC:=hid' (And.intro (HGC.out.1.kept hk6) (And.intro (HGC.out.2.1.kept hk6) HGC.out.2.2))
 have HB:=hid' (And.intro (HB.out.1.kept hk6) (HB.out.2.kept hk6))
 clear hk6
 clear q0 q1 q2 q3 u0 u1 u2 u3 hS hz HU
 have f0:=HB.out.2.c0
 have f1:=HB.out.2.c1
 go_wp2_with fail
 refine (text_any true _ [69999300] _ HGC.out.2.1 HGC.out.2.2 (HT.out.kept HK.out.1)).mono ?_
 rintro e w7 ⟨hk7,D,hpl,_,hdv,rfl⟩
 have hD:D = [54,57,57,57,57,51,48,48]:=by rw [plain_dec hpl,hdv]; kernel_rfl
 subst hD
 rw [show (tx true [54,57,57,57,57,51,48,48]).toArray = #[45,54,57,57,57,57,51,48,48] from rfl]
 have HK:=hid' (And.intro (HK.out.1.trans hk7) (HK.out.2.kept hk7))
 have HN:=hid' (And.intro (HN.out.1.kept hk7) (HN.out.2.kept hk7))
 have HGC:=hid' (And.intro (HGC.out.1.kept hk7) (And.intro (HGC.out.2.1.kept hk7) HGC.out.2.2))
 have HB:=hid' (And.intro (HB.out.1.kept hk7) (HB.out.2.kept hk7))
 clear hk7
 clear f0 f1 hpl hdv
 obtain ⟨e5,_,gb,go,rfl,hcell⟩:=F.Sl.one HGC.out.1
 subst e5
 have q0:=HK.out.2.c0
 have q1:=HK.out.2.c1
 have q2:=HK.out.2.c2
 have q3:=HK.out.2.c3
 have d3:=HB.out.1.c3
 go_wp2_with fail
 refine (validM_any ⟨#[100]⟩ 100 _ _ 2 2 1 1 [((1:Int),(-6:Int)),(1,-1)] [((7:Int),(-1:Int))] _ (by decide) HN.out.1 HN.out.2 (by decide) (by decide)).mono ?_
 rintro e w8 ⟨hk8,rfl⟩
 rw [show okM (⟨#[100]⟩:ByteArray).data.toList 100 [((1:Int),(-6:Int)),(1,-1)] [((7:Int),(-1:Int))] = true by kernel_rfl]
 clear hcell d3 q0 q1 q2 q3
 have HK:=hid' (And.intro (HK.out.1.trans hk8) (HK.out.2.kept hk8))
 have HN:=hid' (And.intro (HN.out.1.kept hk8) (HN.out.2.kept hk8))
 have HGC:=hid' (And.intro (HGC.out.1.kept hk8) (And.intro (HGC.out.2.1.kept hk8) HGC.out.2.2))
 have HB:=hid' (And.intro (HB.out.1.kept hk8) (HB.out.2.kept hk8))
 clear hk8
 have q0:=HK.out.2.c0
 have q1:=HK.out.2.c1
 have q2:=HK.out.2.c2
 have q3:=HK.out.2.c3
 go_wp2_with fail
 refine (countM_any ⟨#[100]⟩ 100 _ _ 2 2 1 1 [((1:Int),(-6:Int)),(1,-1)] [((7:Int),(-1:Int))] _ (by decide) HN.out.1 HN.out.2 (by decide) (by decide)).mono ?_
 rintro e w9 ⟨hk9,rfl⟩
 rw [show okM (⟨#[100]⟩:ByteArray).data.toList 100 [((1:Int),(-6:Int)),(1,-1)] [((7:Int),(-1:Int))] = true by kernel_rfl]
 clear q0 q1 q2 q3
 have HK:=hid' (And.intro (HK.out.1.trans hk9) (HK.out.2.kept hk9))
 have HN:=hid' (And.intro (HN.out.1.kept hk9) (HN.out.2.kept hk9))
 have HGC:=hid' (And.intro (HGC.out.1.kept hk9) (And.intro (HGC.out.2.1.kept hk9) HGC.out.2.2))
 have HB:=hid' (And.intro (HB.out.1.kept hk9) (HB.out.2.kept hk9))
 clear hk9
 go_wp2_with fail
 refine (countM_any ⟨#[]⟩ 0 none none 0 0 0 0 [] [] _ (by decide) ⟨none,0,rfl,fun h => absurd h (by decide)⟩ ⟨none,0,rfl,fun h => absurd h (by decide)⟩ (by decide) (by decide)).mono ?_
 rintro e wa ⟨hka,rfl⟩
 rw [show okM (⟨#[]⟩:ByteArray).data.toList 0 [] [] = false by kernel_rfl]
 have HK:=hid' (And.intro (HK.out.1.trans hka) (HK.out.2.kept hka))
 have HN:=hid' (And.intro (HN.out.1.kept hka) (HN.out.2.kept hka))
 have HGC:=hid' (And.intro (HGC.out.1.kept hka) (And.intro (HGC.out.2.1.kept hka) HGC.out.2.2))
 have HB:=hid' (And.intro (HB.out.1.kept hka) (HB.out.2.kept hka))
 clear hka
 go_wp2_with fail
 go_ret
 exact ⟨HK.out.1,rfl⟩
open Q (hid' Row3 Row2 okN okN_bd Scl RQ)
def PV (rf:Int) (w:World) (x:Value) (A:Int) (S:Nat):Prop:=(rf = 0/\RS w x A S) ∨ (¬ rf = 0/\x = .agg #[.bool false,.slice none 0 0,.bool false,.slice none 0 0])
theorem PV.kept {rf:Int} {w w':World} {x:Value} {A:Int} {S:Nat} (h:PV rf w x A S) (k:Kept w w'):PV rf w' x A S:=by
 rcases h with ⟨h0,h⟩ | h
 ·
  exact .inl ⟨h0,h.kept k⟩
 ·
  exact .inr h
theorem PV.shape {rf:Int} {w:World} {x:Value} {A:Int} {S:Nat} (h:PV rf w x A S):∃ (s:Bool) (ao ap:Option Addr) (k c k' c':Nat),x = .agg #[.bool s,.slice ao k c,.bool false,.slice ap k' c']:=by
 rcases h with ⟨_,h⟩ | ⟨_,rfl⟩
 ·
  exact h.shape
 ·
  exact ⟨_,_,_,_,_,_,_,rfl⟩
theorem PV.same {rf:Int} {x y:Value} {A:Int} {S:Nat} (w:World) (h:PV rf w x A S) (h':PV rf w y A S) (hS:0 < S):Calls Tryz.prog 16 #[x,y] w fun e w' => Kept w w'/\e = .returned (.bool true):=by
 rcases h with ⟨h0,h⟩ | ⟨h0,rfl⟩
 ·
  rcases h' with ⟨_,h'⟩ | ⟨h1,_⟩
  ·
   exact same_rs w h h' hS
  ·
   exact absurd h0 h1
 ·
  rcases h' with ⟨h1,_⟩ | ⟨_,rfl⟩
  ·
   exact absurd h1 h0
  ·
   refine (F.same_r false false _ _ _ _ [] [] w (Sl.nil _ _ _) (Sl.nil _ _ _) (Sl.nil _ _ _) (Sl.nil _ _ _) (by simp) (by simp)).mono ?_
   rintro e w' ⟨rfl,hk⟩
   exact ⟨hk,rfl⟩
theorem part_pv {B:Nat} {w':World} {e:Ending} {rf kd:Int} {gs vs:List (Int × Int)} {i:Int} (h:PartIs B w' e rf kd gs vs i):∃ u v,e = .returned (.tuple #[u,v,.int .i64 rf])/\PV rf w' u (U (gs.getD i.toNat (0,0)).1 (gs.getD i.toNat (0,0)).2) (10 ^ 18)/\PV rf w' v (ownK kd gs vs i.toNat) (10 ^ 54):=by
 rcases h with ⟨h0,rfl⟩ | ⟨rfl,u,v,rfl,h1,h2⟩
 ·
  exact ⟨_,_,rfl,.inr ⟨h0,rfl⟩,.inr ⟨h0,rfl⟩⟩
 ·
  exact ⟨u,v,rfl,.inl ⟨rfl,h1.rs⟩,.inl ⟨rfl,h2.rs⟩⟩
theorem part_pt {w':World} {e:Ending} {rf kd:Int} {gs vs:List (Int × Int)} {i:Int} (h:PartT w' e rf kd gs vs i):∃ u v,e = .returned (.tuple #[u,v,.int .i64 rf])/\PV rf w' u (U (gs.getD i.toNat (0,0)).1 (gs.getD i.toNat (0,0)).2) (10 ^ 18)/\PV rf w' v (ownK kd gs vs i.toNat) (10 ^ 54):=by
 rcases h with ⟨h0,rfl⟩ | ⟨rfl,u,v,rfl,h1,h2⟩
 ·
  exact ⟨_,_,rfl,.inr ⟨h0,rfl⟩,.inr ⟨h0,rfl⟩⟩
 ·
  exact ⟨u,v,rfl,.inl ⟨rfl,h1.rs⟩,.inl ⟨rfl,h2.rs⟩⟩
set_option maxRecDepth 100000 in
set_option maxHeartbeats 8000000 in
theorem callsM_any (s:ByteArray) (k:Int) (a1 a2:Option Addr) (n c m c':Nat) (gs vs:List (Int × Int)) (i':Int) (sg nA:Bool) (b1 b2:Option Addr) (k1 c1 k2 c2:Nat) (an ad:List Nat) (w:World) (ht:Tab w) (hs:s.size<=9223372036854775807) (h1:NSl w (.slice a1 n c) gs) (h2:NSl w (.slice a2 m c') vs) (hn:n<=4611686018427387903) (hm:m<=4611686018427387903)
  (ha:Sl w (.slice b1 k1 c1) an) (had:Sl w (.slice b2 k2 c2) ad) (hla:an.length<=9223372036854775807) (hld:ad.length<=9223372036854775807) (hk1:k1<=1000000000000000) (hk2:k2<=1000000000000000) (hn16:(n + 1) * 16<=140737488355328) (hm16:(m + 1) * 16<=140737488355328) :
  Calls Tryz.prog 3 #[.agg #[.string s,.int .u8 k,.slice a1 n c,.slice a2 m c'],.int .i64 i',.agg #[.bool sg,.slice b1 k1 c1,.bool nA,.slice b2 k2 c2]] w fun e w' => Kept w w'/\e = .returned (.bool true):=by
 have HS:=hid' (And.intro h1 (And.intro h2 (And.intro ha (And.intro had (And.intro hla (And.intro hld ht))))))
 clear h1 h2 ha had hla hld ht
 have HPM:=hid' (partM_any s k)
 have HPR:=hid' (partR_any s k a1 a2 n c m c' gs vs i')
 have HSM:=hid' (sideM_any s k)
 have HSR:=hid' (sideR_any s k a1 a2 n c m c' gs vs i' sg nA b1 b2 k1 c1 k2 c2 an ad)
 have HFM:=hid' (findM_any s k)
 have HFR:=hid' (findR_any s k a1 a2 n c m c' gs vs sg nA b1 b2 k1 c1 k2 c2 an ad)
 have HVM:=hid' (validM_any s k)
 have HVR:=hid' (rvalidM_any s k a1 a2 n c m c' gs vs)
 have HCM:=hid' (countM_any s k)
 obtain ⟨rf,hrf⟩:∃ rf,rf = refM s.data.toList k gs vs i':=⟨_,rfl⟩
 have HRE:=hid' hrf
 obtain ⟨ok,hok⟩:∃ ok,ok = okM s.data.toList k gs vs:=⟨_,rfl⟩
 have HOE:=hid' hok
 obtain ⟨sz,hsz⟩:∃ x,x = sideT rf (refU sg nA an ad) (sideS (M.int sg an) (M.val ad) vs i'.toNat):=⟨_,rfl⟩
 obtain ⟨sz,sf⟩:=sz
 have HSZ:=hid' hsz
 obtain ⟨fz,hfz⟩:∃ x,x = findT ok (refU sg nA an ad) (cntA (M.int sg an) (M.val ad) vs):=⟨_,rfl⟩
 obtain ⟨fz,ff⟩:=fz
 have HFZ:=hid' hfz
 rw [<- hrf] at HPR HSR
 rw [<- hok] at HFR HVR
 rw [<- hsz] at HSR
 rw [<- hfz] at HFR
 clear hrf hok hsz hfz
 go_enter Tryz.func3,Tryz.ntmps3
 go_upto_region 1 with fail
 have hM:=(Row4.alloc 24 w (.string s) (.int .u8 k) (.slice a1 n c) (.slice a2 m c')).kept ((Kept.refl (w.alloc (.cells #[.string s,.int .u8 k,.slice a1 n c,.slice a2 m c'] 24))).alloc (.cells #[.bool sg,.slice b1 k1 c1,.bool nA,.slice b2 k2 c2] 29))
 have hU:=F.RRow.alloc (w.alloc (.cells #[.string s,.int .u8 k,.slice a1 n c,.slice a2 m c'] 24)) (.bool sg) (.slice b1 k1 c1) (.bool nA) (.slice b2 k2 c2)
 have hK:=(((Kept.refl w).alloc (.cells #[.string s,.int .u8 k,.slice a1 n c,.slice a2 m c'] 24)).alloc (.cells #[.bool sg,.slice b1 k1 c1,.bool nA,.slice b2 k2 c2] 29))
 simp only [World.size_alloc] at hU
 generalize (w.alloc (.cells #[.string s,.int .u8 k,.slice a1 n c,.slice a2 m c'] 24)).alloc (.cells #[.bool sg,.slice b1 k1 c1,.bool nA,.slice b2 k2 c2] 29) = W at hM hU hK ⊢
 obtain ⟨q,hqq⟩:∃ q,q = w.heap.size + 1:=⟨_,rfl⟩
 rw [<- hqq] at hU ⊢
 obtain ⟨p,hqp⟩:∃ q,q = w.heap.size:=⟨_,rfl⟩
 rw [<- hqp] at hM ⊢
 clear hqp hqq
 have HK:=hid' (And.intro hK (And.intro hM hU))
 clear hK hM hU
 go_wp2_with fail
 refine (awakeM_any _ (HS.out.2.2.2.2.2.2.kept HK.out.1)).mono ?_
 rintro e w1 ⟨hkq,rfl⟩
 have HK:=hid' (And.intro (HK.out.1.trans hkq) (And.intro (HK.out.2.1.kept hkq) (HK.out.2.2.kept hkq)))
 clear hkq
 have u1:=HK.out.2.2.c1
 have u3:=HK.out.2.2.c3
 by_cases hz:(160:Int) < (k1:Int) + (k2:Int)
 ·
  have hz2:160 < k1 + k2:=by omega
  go_wp2_with fail
  go_ret
  exact ⟨HK.out.1,rfl⟩
 have hz2:¬ 160 < k1 + k2:=by omega
 have q0:=HK.out.2.1.c0
 have q1:=HK.out.2.1.c1
 have q2:=HK.out.2.1.c2
 have q3:=HK.out.2.1.c3
 go_wp2_with fail
 refine (lentM_any s k a1 a2 n c m c' gs vs _ (HS.out.1.kept HK.out.1) (HS.out.2.1.kept HK.out.1) hn16 hm16).mono ?_
 rintro e w2 ⟨hkq,g1,cap1,g2,cap2,f1,f2,rfl,hLM⟩
 have HI:=hid' hLM
 have HK:=hid' (And.intro (HK.out.1.trans hkq) (And.intro (HK.out.2.1.kept hkq) (HK.out.2.2.kept hkq)))
 clear hkq q0 q1 q2 q3 u1 u3 hz hz2 hLM
 go_upto_region 6 with fail
 have hI1:=Row4.alloc 24 w2 (.string s) (.int .u8 k) (.slice (some ⟨g1,0,none⟩) n cap1) (.slice (some ⟨g2,0,none⟩) m cap2)
 have kA:=((Kept.refl w2).alloc (.cells #[.string s,.int .u8 k,.slice (some ⟨g1,0,none⟩) n cap1,.slice (some ⟨g2,0,none⟩) m cap2] 24))
 generalize w2.alloc (.cells #[.string s,.int .u8 k,.slice (some ⟨g1,0,none⟩) n cap1,.slice (some ⟨g2,0,none⟩) m cap2] 24) = W2 at hI1 kA ⊢
 obtain ⟨pin,hqpin⟩:∃ q,q = w2.heap.size:=⟨_,rfl⟩
 rw [<- hqpin] at hI1 ⊢
 clear hqpin
 have HI:=hid' (And.intro hI1 (HI.out.kept kA))
 have HK:=hid' (And.intro (HK.out.1.trans kA) (And.intro (HK.out.2.1.kept kA) (HK.out.2.2.kept kA)))
 clear kA hI1
 have q0:=HI.out.1.c0
 have q1:=HI.out.1.c1
 have q2:=HI.out.1.c2
 have q3:=HI.out.1.c3
 go_wp2_with fail
 refine (HPM.out (some ⟨g1,0,none⟩) (some ⟨g2,0,none⟩) n cap1 m cap2 gs vs i' _ hs HI.out.2.nsl1 HI.out.2.nsl2 hn hm).mono ?_
 rintro e w3 ⟨hkq,hP⟩
 rw [<- HRE.out] at hP
 obtain ⟨xa,xb,rfl,ta,tb⟩:=part_pv hP
 obtain ⟨x0,x1,x2,x3,x4,x5,x6,rfl⟩:=ta.shape
 obtain ⟨y0,y1,y2,y3,y4,y5,y6,rfl⟩:=tb.shape
 have HK:=hid' (And.intro (HK.out.1.trans hkq) (And.intro (HK.out.2.1.kept hkq) (HK.out.2.2.kept hkq)))
 have HI:=hid' (And.intro (HI.out.1.kept hkq) (HI.out.2.kept hkq))
 clear hkq hP q0 q1 q2 q3
 go_upto_region 7 with fail
 have hX1:=(F.RRow.alloc w3 (.bool x0) (.slice x1 x3 x4) (.bool false) (.slice x2 x5 x6)).kept ((Kept.refl (w3.alloc (.cells #[.bool x0,.slice x1 x3 x4,.bool false,.slice x2 x5 x6] 29))).alloc (.cells #[.bool y0,.slice y1 y3 y4,.bool false,.slice y2 y5 y6] 29))
 have hX2:=F.RRow.alloc (w3.alloc (.cells #[.bool x0,.slice x1 x3 x4,.bool false,.slice x2 x5 x6] 29)) (.bool y0) (.slice y1 y3 y4) (.bool false) (.slice y2 y5 y6)
 have kA:=(((Kept.refl w3).alloc (.cells #[.bool x0,.slice x1 x3 x4,.bool false,.slice x2 x5 x6] 29)).alloc (.cells #[.bool y0,.slice y1 y3 y4,.bool false,.slice y2 y5 y6] 29))
 simp only [World.size_alloc] at hX2
 generalize (w3.alloc (.cells #[.bool x0,.slice x1 x3 x4,.bool false,.slice x2 x5 x6] 29)).alloc (.cells #[.bool y0,.slice y1 y3 y4,.bool false,.slice y2 y5 y6] 29) = W3 at hX1 hX2 kA ⊢
 obtain ⟨px2,hqpx2⟩:∃ q,q = w3.heap.size + 1:=⟨_,rfl⟩
 rw [<- hqpx2] at hX2 ⊢
 obtain ⟨px1,hqpx1⟩:∃ q,q = w3.heap.size:=⟨_,rfl⟩
 rw [<- hqpx1] at hX1 ⊢
 clear hqpx1 hqpx2
 have HX:=hid' (And.intro hX1 (And.intro hX2 (And.intro (ta.kept kA) (tb.kept kA))))
 have HK:=hid' (And.intro (HK.out.1.trans kA) (And.intro (HK.out.2.1.kept kA) (HK.out.2.2.kept kA)))
 have HI:=hid' (And.intro (HI.out.1.kept kA) (HI.out.2.kept kA))
 clear kA hX1 hX2 ta tb
 have q0:=HK.out.2.1.c0
 have q1:=HK.out.2.1.c1
 have q2:=HK.out.2.1.c2
 have q3:=HK.out.2.1.c3
 go_wp2_with fail
 refine (HPR.out _ hs (HS.out.1.kept HK.out.1) (HS.out.2.1.kept HK.out.1) hn hm).mono ?_
 rintro e w4 ⟨hkq,hP⟩
 obtain ⟨ya,yb,rfl,ta,tb⟩:=part_pt hP
 obtain ⟨z0,z1,z2,z3,z4,z5,z6,rfl⟩:=ta.shape
 obtain ⟨t0,t1,t2,t3,t4,t5,t6,rfl⟩:=tb.shape
 have HK:=hid' (And.intro (HK.out.1.trans hkq) (And.intro (HK.out.2.1.kept hkq) (HK.out.2.2.kept hkq)))
 have HI:=hid' (And.intro (HI.out.1.kept hkq) (HI.out.2.kept hkq))
 have HX:=hid' (And.intro (HX.out.1.kept hkq) (And.intro (HX.out.2.1.kept hkq) (And.intro (HX.out.2.2.1.kept hkq) (HX.out.2.2.2.kept hkq))))
 clear hkq hP q0 q1 q2 q3
 go_upto_region 8 with fail
 have hY1:=(F.RRow.alloc w4 (.bool z0) (.slice z1 z3 z4) (.bool false) (.slice z2 z5 z6)).kept ((Kept.refl (w4.alloc (.cells #[.bool z0,.slice z1 z3 z4,.bool false,.slice z2 z5 z6] 29))).alloc (.cells #[.bool t0,.slice t1 t3 t4,.bool false,.slice t2 t5 t6] 29))
 have hY2:=F.RRow.alloc (w4.alloc (.cells #[.bool z0,.slice z1 z3 z4,.bool false,.slice z2 z5 z6] 29)) (.bool t0) (.slice t1 t3 t4) (.bool false) (.slice t2 t5 t6)
 have kA:=(((Kept.refl w4).alloc (.cells #[.bool z0,.slice z1 z3 z4,.bool false,.slice z2 z5 z6] 29)).alloc (.cells #[.bool t0,.slice t1 t3 t4,.bool false,.slice t2 t5 t6] 29))
 simp only [World.size_alloc] at hY2
 generalize (w4.alloc (.cells #[.bool z0,.slice z1 z3 z4,.bool false,.slice z2 z5 z6] 29)).alloc (.cells #[.bool t0,.slice t1 t3 t4,.bool false,.slice t2 t5 t6] 29) = W4 at hY1 hY2 kA ⊢
 obtain ⟨py2,hqpy2⟩:∃ q,q = w4.heap.size + 1:=⟨_,rfl⟩
 rw [<- hqpy2] at hY2 ⊢
 obtain ⟨py1,hqpy1⟩:∃ q,q = w4.heap.size:=⟨_,rfl⟩
 rw [<- hqpy1] at hY1 ⊢
 clear hqpy1 hqpy2
 have HY:=hid' (And.intro hY1 (And.intro hY2 (And.intro (ta.kept kA) (tb.kept kA))))
 have HK:=hid' (And.intro (HK.out.1.trans kA) (And.intro (HK.out.2.1.kept kA) (HK.out.2.2.kept kA)))
 have HI:=hid' (And.intro (HI.out.1.kept kA) (HI.out.2.kept kA))
 have HX:=hid' (And.intro (HX.out.1.kept kA) (And.intro (HX.out.2.1.kept kA) (And.intro (HX.out.2.2.1.kept kA) (HX.out.2.2.2.kept kA))))
 clear kA hY1 hY2 ta tb
 have q0:=HI.out.1.c0
 have q1:=HI.out.1.c1
 have q2:=HI.out.1.c2
 have q3:=HI.out.1.c3
 have u0:=HK.out.2.2.c0
 have u1:=HK.out.2.2.c1
 have u2:=HK.out.2.2.c2
 have u3:=HK.out.2.2.c3
 go_wp2_with fail
 refine (HSM.out (some ⟨g1,0,none⟩) (some ⟨g2,0,none⟩) n cap1 m cap2 gs vs i' sg nA b1 b2 k1 c1 k2 c2 an ad _ hs HI.out.2.nsl1 HI.out.2.nsl2 hn hm (HS.out.2.2.1.kept HK.out.1) (HS.out.2.2.2.1.kept HK.out.1) HS.out.2.2.2.2.1 HS.out.2.2.2.2.2.1).mono ?_
 rintro e w5 ⟨hkq,z,f,rfl,hSI⟩
 rw [<- HRE.out] at hSI
 have hSI:=side_is hSI
 rw [<- HSZ.out] at hSI
 obtain ⟨rfl,rfl⟩:=hSI
 have HK:=hid' (And.intro (HK.out.1.trans hkq) (And.intro (HK.out.2.1.kept hkq) (HK.out.2.2.kept hkq)))
 have HI:=hid' (And.intro (HI.out.1.kept hkq) (HI.out.2.kept hkq))
 have HX:=hid' (And.intro (HX.out.1.kept hkq) (And.intro (HX.out.2.1.kept hkq) (And.intro (HX.out.2.2.1.kept hkq) (HX.out.2.2.2.kept hkq))))
 have HY:=hid' (And.intro (HY.out.1.kept hkq) (And.intro (HY.out.2.1.kept hkq) (And.intro (HY.out.2.2.1.kept hkq) (HY.out.2.2.2.kept hkq))))
 clear hkq q0 q1 q2 q3 u0 u1 u2 u3
 have q0:=HK.out.2.1.c0
 have q1:=HK.out.2.1.c1
 have q2:=HK.out.2.1.c2
 have q3:=HK.out.2.1.c3
 have u0:=HK.out.2.2.c0
 have u1:=HK.out.2.2.c1
 have u2:=HK.out.2.2.c2
 have u3:=HK.out.2.2.c3
 go_wp2_with fail
 refine (HSR.out _ hs (HS.out.1.kept HK.out.1) (HS.out.2.1.kept HK.out.1) hn hm (HS.out.2.2.1.kept HK.out.1) (HS.out.2.2.2.1.kept HK.out.1) HS.out.2.2.2.2.1 HS.out.2.2.2.2.2.1).mono ?_
 rintro e w6 ⟨hkq,rfl⟩
 have HK:=hid' (And.intro (HK.out.1.trans hkq) (And.intro (HK.out.2.1.kept hkq) (HK.out.2.2.kept hkq)))
 have HI:=hid' (And.intro (HI.out.1.kept hkq) (HI.out.2.kept hkq))
 have HX:=hid' (And.intro (HX.out.1.kept hkq) (And.intro (HX.out.2.1.kept hkq) (And.intro (HX.out.2.2.1.kept hkq) (HX.out.2.2.2.kept hkq))))
 have HY:=hid' (And.intro (HY.out.1.kept hkq) (And.intro (HY.out.2.1.kept hkq) (And.intro (HY.out.2.2.1.kept hkq) (HY.out.2.2.2.kept hkq))))
 clear hkq q0 q1 q2 q3 u0 u1 u2 u3
 have q0:=HI.out.1.c0
 have q1:=HI.out.1.c1
 have q2:=HI.out.1.c2
 have q3:=HI.out.1.c3
 have u0:=HK.out.2.2.c0
 have u1:=HK.out.2.2.c1
 have u2:=HK.out.2.2.c2
 have u3:=HK.out.2.2.c3
 go_wp2_with fail
 refine (HFM.out (some ⟨g1,0,none⟩) (some ⟨g2,0,none⟩) n cap1 m cap2 gs vs sg nA b1 b2 k1 c1 k2 c2 an ad _ hs HI.out.2.nsl1 HI.out.2.nsl2 hn hm (HS.out.2.2.1.kept HK.out.1) (HS.out.2.2.2.1.kept HK.out.1) HS.out.2.2.2.2.1 HS.out.2.2.2.2.2.1).mono ?_
 rintro e w7 ⟨hkq,z,f,rfl,hSI⟩
 rw [<- HOE.out] at hSI
 have hSI:=find_is hSI
 rw [<- HFZ.out] at hSI
 obtain ⟨rfl,rfl⟩:=hSI
 have HK:=hid' (And.intro (HK.out.1.trans hkq) (And.intro (HK.out.2.1.kept hkq) (HK.out.2.2.kept hkq)))
 have HI:=hid' (And.intro (HI.out.1.kept hkq) (HI.out.2.kept hkq))
 have HX:=hid' (And.intro (HX.out.1.kept hkq) (And.intro (HX.out.2.1.kept hkq) (And.intro (HX.out.2.2.1.kept hkq) (HX.out.2.2.2.kept hkq))))
 have HY:=hid' (And.intro (HY.out.1.kept hkq) (And.intro (HY.out.2.1.kept hkq) (And.intro (HY.out.2.2.1.kept hkq) (HY.out.2.2.2.kept hkq))))
 clear hkq q0 q1 q2 q3 u0 u1 u2 u3
 have q0:=HK.out.2.1.c0
 have q1:=HK.out.2.1.c1
 have q2:=HK.out.2.1.c2
 have q3:=HK.out.2.1.c3
 have u0:=HK.out.2.2.c0
 have u1:=HK.out.2.2.c1
 have u2:=HK.out.2.2.c2
 have u3:=HK.out.2.2.c3
 go_wp2_with fail
 refine (HFR.out _ hs (HS.out.1.kept HK.out.1) (HS.out.2.1.kept HK.out.1) hn hm (HS.out.2.2.1.kept HK.out.1) (HS.out.2.2.2.1.kept HK.out.1) HS.out.2.2.2.2.1 HS.out.2.2.2.2.2.1).mono ?_
 rintro e w8 ⟨hkq,rfl⟩
 have HK:=hid' (And.intro (HK.out.1.trans hkq) (And.intro (HK.out.2.1.kept hkq) (HK.out.2.2.kept hkq)))
 have HI:=hid' (And.intro (HI.out.1.kept hkq) (HI.out.2.kept hkq))
 have HX:=hid' (And.intro (HX.out.1.kept hkq) (And.intro (HX.out.2.1.kept hkq) (And.intro (HX.out.2.2.1.kept hkq) (HX.out.2.2.2.kept hkq))))
 have HY:=hid' (And.intro (HY.out.1.kept hkq) (And.intro (HY.out.2.1.kept hkq) (And.intro (HY.out.2.2.1.kept hkq) (HY.out.2.2.2.kept hkq))))
 clear hkq q0 q1 q2 q3 u0 u1 u2 u3
 have q0:=HK.out.2.1.c0
 have q1:=HK.out.2.1.c1
 have q2:=HK.out.2.1.c2
 have q3:=HK.out.2.1.c3
 go_wp2_with fail
 refine (HVR.out _ hs (HS.out.1.kept HK.out.1) (HS.out.2.1.kept HK.out.1) hn hm).mono ?_
 rintro e w9 ⟨hkq,rfl⟩
 have HK:=hid' (And.intro (HK.out.1.trans hkq) (And.intro (HK.out.2.1.kept hkq) (HK.out.2.2.kept hkq)))
 have HI:=hid' (And.intro (HI.out.1.kept hkq) (HI.out.2.kept hkq))
 have HX:=hid' (And.intro (HX.out.1.kept hkq) (And.intro (HX.out.2.1.kept hkq) (And.intro (HX.out.2.2.1.kept hkq) (HX.out.2.2.2.kept hkq))))
 have HY:=hid' (And.intro (HY.out.1.kept hkq) (And.intro (HY.out.2.1.kept hkq) (And.intro (HY.out.2.2.1.kept hkq) (HY.out.2.2.2.kept hkq))))
 clear hkq q0 q1 q2 q3
 have q2:=HK.out.2.1.c2
 obtain ⟨ct,hct⟩:∃ ct:Int,ct = if ok = true then (n:Int) else 0:=⟨_,rfl⟩
 have HCT:=hid' hct
 clear hct
 go_upto_if 78 with fail
 go_cut [22] (fun s22 wc => s22 = .int .i64 ct/\wc = w9)
 case first =>
  cases ok
  ·
   go_wp2_with fail
   go_meet
   case rel => exact ⟨by rw [HCT.out]; rfl,rfl⟩
  ·
   go_wp2_with fail
   go_meet
   case rel => exact ⟨by rw [HCT.out]; rfl,rfl⟩
 obtain ⟨rfl,rfl⟩:=hcut
 clear q2
 go_upto_region 15 with fail
 have KR:Kept wc wc.drew:=(Kept.refl _).drew
 have sS:=hid' (fun (V:World) (K:Kept wc V) => (show V.cell? ⟨px1,0,none⟩ = some (.bool x0)/\V.cell? ⟨px1,1,none⟩ = some (.slice x1 x3 x4)/\V.cell? ⟨px1,2,none⟩ = some (.bool false)/\V.cell? ⟨px1,3,none⟩ = some (.slice x2 x5 x6)/\V.cell? ⟨px2,0,none⟩ = some (.bool y0)/\V.cell? ⟨px2,1,none⟩ = some (.slice y1 y3 y4)/\V.cell? ⟨px2,2,none⟩ = some (.bool false)/\V.cell? ⟨px2,3,none⟩ = some (.slice y2 y5 y6)/\V.cell? ⟨py1,0,none⟩ = some (.bool z0)/\V.cell? ⟨py1,1,none⟩ = some (.slice z1 z3 z4)/\V.cell? ⟨py1,2,none⟩ = some (.bool false)/\V.cell? ⟨py1,3,none⟩ = some (.slice z2 z5 z6)/\V.cell? ⟨py2,0,none⟩ = some (.bool t0)/\V.cell? ⟨py2,1,none⟩ = some (.slice t1 t3 t4)/\V.cell? ⟨py2,2,none⟩ = some (.bool false)/\V.cell? ⟨py2,3,none⟩ = some (.slice t2 t5 t6)/\V.cell? ⟨pin,0,none⟩ = some (.string s)/\V.cell? ⟨pin,1,none⟩ = some (.int .u8 k)/\V.cell? ⟨pin,2,none⟩ = some (.slice (some ⟨g1,0,none⟩) n cap1)/\V.cell? ⟨pin,3,none⟩ = some (.slice (some ⟨g2,0,none⟩) m cap2)/\V.cell? ⟨p,0,none⟩ = some (.string s)/\V.cell? ⟨p,1,none⟩ = some (.int .u8 k)/\V.cell? ⟨p,2,none⟩ = some (.slice a1 n c)/\V.cell? ⟨p,3,none⟩ = some (.slice a2 m c') from by
  have r1:=HX.out.1.kept K
  have r2:=HX.out.2.1.kept K
  have r3:=HY.out.1.kept K
  have r4:=HY.out.2.1.kept K
  have r5:=HI.out.1.kept K
  have r6:=HK.out.2.1.kept K
  exact ⟨r1.c0,r1.c1,r1.c2,r1.c3,r2.c0,r2.c1,r2.c2,r2.c3,r3.c0,r3.c1,r3.c2,r3.c3,r4.c0,r4.c1,r4.c2,r4.c3,r5.c0,r5.c1,r5.c2,r5.c3,r6.c0,r6.c1,r6.c2,r6.c3⟩))
 refine wp_region_held_drew (S:=fun w' => w'.cell? ⟨px1,0,none⟩ = some (.bool x0)/\w'.cell? ⟨px1,1,none⟩ = some (.slice x1 x3 x4)/\w'.cell? ⟨px1,2,none⟩ = some (.bool false)/\w'.cell? ⟨px1,3,none⟩ = some (.slice x2 x5 x6)/\w'.cell? ⟨px2,0,none⟩ = some (.bool y0)/\w'.cell? ⟨px2,1,none⟩ = some (.slice y1 y3 y4)/\w'.cell? ⟨px2,2,none⟩ = some (.bool false)/\w'.cell? ⟨px2,3,none⟩ = some (.slice y2 y5 y6)/\w'.cell? ⟨py1,0,none⟩ = some (.bool z0)/\w'.cell? ⟨py1,1,none⟩ = some (.slice z1 z3 z4)/\w'.cell? ⟨py1,2,none⟩ = some (.bool false)/\w'.cell? ⟨py1,3,none⟩ = some (.slice z2 z5 z6)/\w'.cell? ⟨py2,0,none⟩ = some (.bool t0)/\w'.cell? ⟨py2,1,none⟩ = some (.slice t1 t3 t4)/\w'.cell? ⟨py2,2,none⟩ = some (.bool false)/\w'.cell? ⟨py2,3,none⟩ = some (.slice t2 t5 t6)/\w'.cell? ⟨pin,0,none⟩ = some (.string s)/\w'.cell? ⟨pin,1,none⟩ = some (.int .u8 k)/\w'.cell? ⟨pin,2,none⟩ = some (.slice (some ⟨g1,0,none⟩) n cap1)/\w'.cell? ⟨pin,3,none⟩ = some (.slice (some ⟨g2,0,none⟩) m cap2)/\w'.cell? ⟨p,0,none⟩ = some (.string s)/\w'.cell? ⟨p,1,none⟩ = some (.int .u8 k)/\w'.cell? ⟨p,2,none⟩ = some (.slice a1 n c)/\w'.cell? ⟨p,3,none⟩ = some (.slice a2 m c')) (by kernel_rfl) (sS.out _ KR) (fun hHeld => ?_)
 generalize wc.drew = Wd at KR hHeld ⊢
 refine tk 0 hHeld ?_
 refine tk 1 hHeld ?_
 refine rdy 2 fun K hK => ?_
 go_simp
 refine (PV.same _ (HX.out.2.2.1.kept KR) (HY.out.2.2.1.kept KR) (by decide)).mono ?_
 rintro e wa ⟨hkq,rfl⟩
 have KR:=KR.trans hkq
 refine hK.out _ _ (sS.out _ KR) (fun hHeld => ?_)
 clear hK K hkq
 refine tk 3 hHeld ?_
 refine tk 4 hHeld ?_
 refine tk 5 hHeld ?_
 refine tk 6 hHeld ?_
 refine rdy 7 fun K hK => ?_
 go_simp
 refine (PV.same _ (HX.out.2.2.2.kept KR) (HY.out.2.2.2.kept KR) (by decide)).mono ?_
 rintro e wb ⟨hkq,rfl⟩
 have KR:=KR.trans hkq
 refine hK.out _ _ (sS.out _ KR) (fun hHeld => ?_)
 clear hK K hkq
 refine tk 8 hHeld ?_
 refine tk 9 hHeld ?_
 refine tk 10 hHeld ?_
 refine tk 11 hHeld ?_
 refine tk 12 hHeld ?_
 refine tk 13 hHeld ?_
 refine tk 14 hHeld ?_
 refine tk 15 hHeld ?_
 refine tk 16 hHeld ?_
 refine tk 17 hHeld ?_
 refine tk 18 hHeld ?_
 refine tk 19 hHeld ?_
 refine tk 20 hHeld ?_
 refine tk 21 hHeld ?_
 refine tk 22 hHeld ?_
 refine tk 23 hHeld ?_
 refine tk 24 hHeld ?_
 refine tk 25 hHeld ?_
 refine tk 26 hHeld ?_
 refine tk 27 hHeld ?_
 refine tk 28 hHeld ?_
 refine tk 29 hHeld ?_
 refine tk 30 hHeld ?_
 refine tk 31 hHeld ?_
 refine tk 32 hHeld ?_
 refine tk 33 hHeld ?_
 refine tk 34 hHeld ?_
 refine tk 35 hHeld ?_
 refine tk 36 hHeld ?_
 refine tk 38 hHeld ?_
 refine rdy 37 fun K hK => ?_
 go_simp
 refine (HVM.out (some ⟨g1,0,none⟩) (some ⟨g2,0,none⟩) n cap1 m cap2 gs vs _ hs (HI.out.2.nsl1.kept KR) (HI.out.2.nsl2.kept KR) hn hm).mono ?_
 rintro e wd ⟨hkq,rfl⟩
 rw [<- HOE.out]
 have KR:=KR.trans hkq
 refine hK.out _ _ (sS.out _ KR) (fun hHeld => ?_)
 clear hK K hkq
 refine rdy 39 fun K hK => ?_
 go_simp
 refine (HVR.out _ hs (HS.out.1.kept (HK.out.1.trans KR)) (HS.out.2.1.kept (HK.out.1.trans KR)) hn hm).mono ?_
 rintro e we ⟨hkq,rfl⟩
 have KR:=KR.trans hkq
 refine hK.out _ _ (sS.out _ KR) (fun hHeld => ?_)
 clear hK K hkq
 refine tk 40 hHeld ?_
 refine tk 41 hHeld ?_
 refine tk 42 hHeld ?_
 refine tk 43 hHeld ?_
 refine tk 45 hHeld ?_
 refine rdy 44 fun K hK => ?_
 go_simp
 refine (HCM.out (some ⟨g1,0,none⟩) (some ⟨g2,0,none⟩) n cap1 m cap2 gs vs _ hs (HI.out.2.nsl1.kept KR) (HI.out.2.nsl2.kept KR) hn hm).mono ?_
 rintro e wf ⟨hkq,rfl⟩
 rw [<- HOE.out,<- HCT.out]
 have KR:=KR.trans hkq
 refine hK.out _ _ (sS.out _ KR) (fun hHeld => ?_)
 clear hK K hkq
 refine tk 46 hHeld ?_
 refine tk 47 hHeld ?_
 refine dn ?_
 have HK2:=hid' KR
 have HK:=hid' (And.intro (HK.out.1.trans HK2.out) (And.intro (HK.out.2.1.kept HK2.out) (HK.out.2.2.kept HK2.out)))
 have HI:=hid' (And.intro (HI.out.1.kept HK2.out) (HI.out.2.kept HK2.out))
 clear sS hHeld KR
 go_upto_region 17 with fail
 have l1:(n:Int) + 1<=(cap1:Int):=by have:=HI.out.2.c1; omega
 have l2:(m:Int) + 1<=(cap2:Int):=by have:=HI.out.2.c2; omega
 have l3:(0:Int)<=(n:Int) + 1:=by omega
 have l4:(0:Int)<=(m:Int) + 1:=by omega
 have l5:((n:Int) + 1).toNat = n + 1:=by omega
 have l6:((m:Int) + 1).toNat = m + 1:=by omega
 have l7:(n:Int) < (n:Int) + 1:=by omega
 have l8:(m:Int) < (m:Int) + 1:=by omega
 have l9:IntKind.i64.wrap ((n:Int) + 1) = (n:Int) + 1:=by rw [IntKind.wrap_i64]; omega
 have l10:IntKind.i64.wrap ((m:Int) + 1) = (m:Int) + 1:=by rw [IntKind.wrap_i64]; omega
 have KR:Kept wf wf.drew:=(Kept.refl _).drew
 have sS:=hid' (fun (V:World) (K:Kept wf V) => (show V.cell? ⟨pin,0,none⟩ = some (.string s)/\V.cell? ⟨pin,1,none⟩ = some (.int .u8 k)/\V.cell? ⟨pin,2,none⟩ = some (.slice (some ⟨g1,0,none⟩) n cap1)/\V.cell? ⟨pin,3,none⟩ = some (.slice (some ⟨g2,0,none⟩) m cap2)/\V.cell? ⟨p,0,none⟩ = some (.string s)/\V.cell? ⟨p,1,none⟩ = some (.int .u8 k)/\V.cell? ⟨p,2,none⟩ = some (.slice a1 n c)/\V.cell? ⟨p,3,none⟩ = some (.slice a2 m c')/\V.cell? ⟨g1,n * 2,none⟩ = some (.int .i64 77)/\V.cell? ⟨g2,m * 2,none⟩ = some (.int .i64 78) from by
  have r5:=HI.out.1.kept K
  have r6:=HK.out.2.1.kept K
  have rl:=HI.out.2.kept K
  exact ⟨r5.c0,r5.c1,r5.c2,r5.c3,r6.c0,r6.c1,r6.c2,r6.c3,(rl.r1.cell (i:=n * 2) (by have:=rl.c1; omega)).trans (by rw [rl.m1]),(rl.r2.cell (i:=m * 2) (by have:=rl.c2; omega)).trans (by rw [rl.m2])⟩))
 refine wp_region_held_drew (S:=fun w' => w'.cell? ⟨pin,0,none⟩ = some (.string s)/\w'.cell? ⟨pin,1,none⟩ = some (.int .u8 k)/\w'.cell? ⟨pin,2,none⟩ = some (.slice (some ⟨g1,0,none⟩) n cap1)/\w'.cell? ⟨pin,3,none⟩ = some (.slice (some ⟨g2,0,none⟩) m cap2)/\w'.cell? ⟨p,0,none⟩ = some (.string s)/\w'.cell? ⟨p,1,none⟩ = some (.int .u8 k)/\w'.cell? ⟨p,2,none⟩ = some (.slice a1 n c)/\w'.cell? ⟨p,3,none⟩ = some (.slice a2 m c')/\w'.cell? ⟨g1,n * 2,none⟩ = some (.int .i64 77)/\w'.cell? ⟨g2,m * 2,none⟩ = some (.int .i64 78)) (by kernel_rfl) (sS.out _ KR) (fun hHeld => ?_)
 generalize wf.drew = Wd at KR hHeld ⊢
 refine tk 0 hHeld ?_
 refine tk 1 hHeld ?_
 refine rdy 2 fun K hK => ?_
 go_simp
 refine (same5_any s k (some ⟨g1,0,none⟩) (some ⟨g2,0,none⟩) a1 a2 n cap1 m cap2 c c' gs vs _ (HI.out.2.nsl1.kept KR) (HI.out.2.nsl2.kept KR) (HS.out.1.kept (HK.out.1.trans KR)) (HS.out.2.1.kept (HK.out.1.trans KR)) hn hm).mono ?_
 rintro e wz ⟨hkq,rfl⟩
 have KR:=KR.trans hkq
 refine hK.out _ _ (sS.out _ KR) (fun hHeld => ?_)
 clear hK K hkq
 refine tk 3 hHeld ?_
 refine tk 4 hHeld ?_
 refine tk 5 hHeld ?_
 refine tk 6 hHeld ?_
 refine tk 7 hHeld ?_
 refine tk 8 hHeld ?_
 refine tk 9 hHeld ?_
 refine tk 10 hHeld ?_
 refine tk 11 hHeld ?_
 refine tk 12 hHeld ?_
 refine tk 13 hHeld ?_
 refine tk 14 hHeld ?_
 refine tk 15 hHeld ?_
 refine tk 16 hHeld ?_
 refine tk 17 hHeld ?_
 refine tk 18 hHeld ?_
 refine tk 19 hHeld ?_
 refine tk 20 hHeld ?_
 refine tk 21 hHeld ?_
 refine tk 22 hHeld ?_
 refine tk 23 hHeld ?_
 refine tk 24 hHeld ?_
 refine tk 25 hHeld ?_
 refine tk 26 hHeld ?_
 refine tk 27 hHeld ?_
 refine tk 28 hHeld ?_
 refine tk 29 hHeld ?_
 refine tk 30 hHeld ?_
 refine tk 31 hHeld ?_
 refine tk 32 hHeld ?_
 refine tk 33 hHeld ?_
 refine tk 34 hHeld ?_
 refine tk 35 hHeld ?_
 refine dn ?_
 have HK2:=hid' (HK.out.1.trans KR)
 clear sS hHeld KR
 go_wp2_with fail
 go_ret
 exact ⟨HK2.out,rfl⟩
end V
end Go.Proofs.YthfbfbfambbkaaaGreatDoor
