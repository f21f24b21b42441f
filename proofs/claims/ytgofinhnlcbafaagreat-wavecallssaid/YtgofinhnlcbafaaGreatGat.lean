/- rat's Make, Round, Whole, of whatever is handed in. shuntref02: Grid, Round. shuntref02: Less. -/
import Derived.Test.YtgofinhnlcbafaaGreatGap
import Derived.Test.YtgofinhnlcbafaaGreatGas
import Derived.Test.YtgofinhnlcbafaaGreatRwhole
namespace Go.Proofs.YtgofinhnlcbafaaGreat
open Go.RowKit
namespace F
def FaultC (m n:Bool) (a d:List Nat) (c:Int):Prop:=(c = 10∧¬ (R m a∧R n d)) ∨ (c = 20∧R m a∧R n d∧¬ RatR m n a d) ∨ (c = 0∧RatR m n a d)
theorem FaultC.one {m n:Bool} {a d:List Nat} {c c':Int} (h:FaultC m n a d c) (h':FaultC m n a d c'):c = c':=by
 rcases h with ⟨rfl,h⟩ | ⟨rfl,h1,h2,h3⟩ | ⟨rfl,h⟩ <;> rcases h' with ⟨rfl,h'⟩ | ⟨rfl,h1',h2',h3'⟩ | ⟨rfl,h'⟩
 ·
  rfl
 ·
  exact absurd ⟨h1',h2'⟩ h
 ·
  exact absurd ⟨h'.ra,h'.rd⟩ h
 ·
  exact absurd ⟨h1,h2⟩ h'
 ·
  rfl
 ·
  exact absurd h' h3
 ·
  exact absurd ⟨h.ra,h.rd⟩ h'
 ·
  exact absurd h h3'
 ·
  rfl
def RoundIs (e:Ending) (m n:Bool) (a d:List Nat):Prop:=∃ c,FaultC m n a d c∧((c ≠ 0∧e = .returned (.tuple #[.int .i64 0,.int .i64 c])) ∨ (c = 0∧e = .returned (.tuple #[.int .i64 (gridV (near (M.int m a) (M.val d))),.int .i64 (gridE (near (M.int m a) (M.val d)))])))
end F
end Go.Proofs.YtgofinhnlcbafaaGreat

namespace Go.Proofs.YtgofinhnlcbafaaGreat
open Go.RowKit
namespace F
set_option maxHeartbeats 4000000 in
theorem Grid_any (s t:Bool) (a1 a2:Option Addr) (k1 c1 k2 c2:Nat) (X Y:Int) (w:World) (h1:D.NIs w s (.slice a1 k1 c1) X) (h2:D.NIs w t (.slice a2 k2 c2) Y) (hl1:k1≤900) (hl2:k2≤900) (hy:0 < Y) :
  Calls Tryz.prog 25 #[.agg #[.bool s,.slice a1 k1 c1,.bool t,.slice a2 k2 c2]] w fun e w' => Kept w w'∧e = .returned (.tuple #[.int .i64 (gridV (near X Y.toNat)),.int .i64 (gridE (near X Y.toNat))]):=by
 have HA:Hid (D.NIs w s (.slice a1 k1 c1) X∧D.NIs w t (.slice a2 k2 c2) Y∧k1≤900∧k2≤900∧0 < Y):=⟨h1,h2,hl1,hl2,hy⟩
 clear h1 h2 hl1 hl2 hy
 obtain ⟨z,HZ⟩:∃ z,Hid (near X Y.toNat = z):=⟨_,rfl⟩
 rw [HZ.out]
 go_enter Tryz.func25,Tryz.ntmps25
 go_wp2_with fail
 refine (Near_any s t a1 a2 k1 c1 k2 c2 X Y _ (HA.out.1.kept ((Kept.refl w).alloc _)) (HA.out.2.1.kept ((Kept.refl w).alloc _)) HA.out.2.2.1 HA.out.2.2.2.1 HA.out.2.2.2.2).mono ?_
 rw [HZ.out]
 rintro e w1 ⟨hk1,s3,a3,k3,c3,rfl,n3,l3⟩
 have HK1:=hid' (((Kept.refl w).alloc _).trans hk1)
 have H3:=hid' (And.intro n3 l3)
 clear hk1 n3 l3
 go_wp2_with fail
 refine (D.Whole_any s3 a3 k3 c3 z _ H3.out.1 (by have h1:=H3.out.2; have h2:=HA.out.2.2.1; omega)).mono ?_
 by_cases hin:-9223372036854775808≤z∧z≤9223372036854775807
 ·
  rw [show i64r z = z by unfold i64r; rw [if_pos hin],show (i64e z == 0) = true by unfold i64e; rw [if_pos hin]; rfl]
  rintro e w2 ⟨rfl,hk2⟩
  have HK2:=hid' (HK1.out.trans hk2)
  clear hk2
  by_cases hg:-1000000000000000000≤z∧z≤1000000000000000000
  ·
   have HG:=hid' hg
   have g1:¬ 1000000000000000000 < z:=by omega
   have g2:¬ z < -1000000000000000000:=by omega
   clear hg hin
   go_wp2
   go_ret2
   exact ⟨HK2.out,ret_grid HG.out rfl⟩
  ·
   have HG:=hid' hg
   by_cases g1:1000000000000000000 < z
   ·
    clear hg hin
    go_wp2
    go_ret2
    exact ⟨HK2.out,ret_off HG.out⟩
   ·
    have g2:z < -1000000000000000000:=by omega
    clear hg hin
    go_wp2
    go_ret2
    exact ⟨HK2.out,ret_off HG.out⟩
 ·
  rw [show (i64e z == 0) = false by unfold i64e; rw [if_neg hin]; rfl]
  have HG:Hid (¬ (-1000000000000000000≤z∧z≤1000000000000000000)):=fun h => hin (by omega)
  clear hin
  rintro e w2 ⟨rfl,hk2⟩
  have HK2:=hid' (HK1.out.trans hk2)
  clear hk2
  generalize i64r z = q
  go_wp2
  go_ret2
  exact ⟨HK2.out,ret_off HG.out⟩
end F
end Go.Proofs.YtgofinhnlcbafaaGreat

namespace Go.Proofs.YtgofinhnlcbafaaGreat
open Go.RowKit
namespace F
set_option maxRecDepth 100000 in
set_option maxHeartbeats 4000000 in
theorem FLess_any (s t s' t':Bool) (a1 a2 b1 b2:Option Addr) (k1 c1 k2 c2 k3 c3 k4 c4:Nat) (X Y X' Y':Int) (w:World) (h1:D.NIs w s (.slice a1 k1 c1) X) (h2:D.NIs w t (.slice a2 k2 c2) Y) (h3:D.NIs w s' (.slice b1 k3 c3) X') (h4:D.NIs w t' (.slice b2 k4 c4) Y') (hk:k1≤300∧k2≤300∧k3≤300∧k4≤300) (hy:Y * Y' ≠ 0) :
  Calls Tryz.prog 81 #[.agg #[.bool s,.slice a1 k1 c1,.bool t,.slice a2 k2 c2],.agg #[.bool s',.slice b1 k3 c3,.bool t',.slice b2 k4 c4]] w fun e w' => Kept w w'∧∃ v N D,e = .returned v∧FIs w' v N D 700 700∧Low (X * Y' + -X' * Y) (Y * Y') N D:=by
 have HA:Hid (D.NIs w s (.slice a1 k1 c1) X∧D.NIs w t (.slice a2 k2 c2) Y∧D.NIs w s' (.slice b1 k3 c3) X'∧D.NIs w t' (.slice b2 k4 c4) Y'∧True):=⟨h1,h2,h3,h4,trivial⟩
 have HL:Hid ((k1≤300∧k2≤300∧k3≤300∧k4≤300)∧Y * Y' ≠ 0):=⟨hk,hy⟩
 clear h1 h2 h3 h4 hk hy
 go_enter Tryz.func81,Tryz.ntmps81
 go_upto_region 1 with fail
 have r2:=((FRow.alloc w (.bool s) (.slice a1 k1 c1) (.bool t) (.slice a2 k2 c2)).kept (((Kept.refl _).alloc (.cells #[.bool s',.slice b1 k3 c3,.bool t',.slice b2 k4 c4] 53)).alloc (.cells #[.bool false,.slice none 0 0,.bool false,.slice none 0 0] 53)))
 have r3:=((FRow.alloc (w.alloc (.cells #[.bool s,.slice a1 k1 c1,.bool t,.slice a2 k2 c2] 53)) (.bool s') (.slice b1 k3 c3) (.bool t') (.slice b2 k4 c4)).kept ((Kept.refl _).alloc (.cells #[.bool false,.slice none 0 0,.bool false,.slice none 0 0] 53)))
 have r4:=FRow.alloc ((w.alloc (.cells #[.bool s,.slice a1 k1 c1,.bool t,.slice a2 k2 c2] 53)).alloc (.cells #[.bool s',.slice b1 k3 c3,.bool t',.slice b2 k4 c4] 53)) (.bool false) (.slice none 0 0) (.bool false) (.slice none 0 0)
 have hK:=(((Kept.refl w).alloc (.cells #[.bool s,.slice a1 k1 c1,.bool t,.slice a2 k2 c2] 53)).alloc (.cells #[.bool s',.slice b1 k3 c3,.bool t',.slice b2 k4 c4] 53)).alloc (.cells #[.bool false,.slice none 0 0,.bool false,.slice none 0 0] 53)
 simp only [World.size_alloc] at r3 r4
 generalize ((w.alloc (.cells #[.bool s,.slice a1 k1 c1,.bool t,.slice a2 k2 c2] 53)).alloc (.cells #[.bool s',.slice b1 k3 c3,.bool t',.slice b2 k4 c4] 53)).alloc (.cells #[.bool false,.slice none 0 0,.bool false,.slice none 0 0] 53) = W at r2 r3 r4 hK ⊢
 obtain ⟨p4,hp4⟩:∃ p,p = w.heap.size + 1 + 1:=⟨_,rfl⟩
 rw [← hp4] at r4 ⊢
 obtain ⟨p3,hp3⟩:∃ p,p = w.heap.size + 1:=⟨_,rfl⟩
 rw [← hp3] at r3 ⊢
 obtain ⟨p2,hp2⟩:∃ p,p = w.heap.size:=⟨_,rfl⟩
 rw [← hp2] at r2 ⊢
 have HP:Hid (w.heap.size≤p4):=by show _≤_; omega
 have n42:¬ p4 = p2:=by omega
 have n43:¬ p4 = p3:=by omega
 have HV:Hid (∀ V,Kept W V→FRow V p2 (.bool s) (.slice a1 k1 c1) (.bool t) (.slice a2 k2 c2)∧FRow V p3 (.bool s') (.slice b1 k3 c3) (.bool t') (.slice b2 k4 c4)∧FRow V p4 (.bool false) (.slice none 0 0) (.bool false) (.slice none 0 0)∧Kept w V):=fun V hV => ⟨r2.kept hV,r3.kept hV,r4.kept hV,hK.trans hV⟩
 obtain ⟨⟨q0',q1',q2',q3'⟩,q4',q5',q6',q7'⟩:=frow_two r2 r3
 clear hp2 hp3 hp4 r2 r3 r4 hK
 go_region_held3 (fun w' => w'.cell? ⟨p2,0,none⟩ = some (.bool s)∧w'.cell? ⟨p2,1,none⟩ = some (.slice a1 k1 c1)∧w'.cell? ⟨p2,2,none⟩ = some (.bool t)∧w'.cell? ⟨p2,3,none⟩ = some (.slice a2 k2 c2)∧w'.cell? ⟨p3,0,none⟩ = some (.bool s')∧w'.cell? ⟨p3,1,none⟩ = some (.slice b1 k3 c3)∧w'.cell? ⟨p3,2,none⟩ = some (.bool t')∧w'.cell? ⟨p3,3,none⟩ = some (.slice b2 k4 c4)) (go_keep) (first
  | (go_at_call 110; refine (FMinus_any s' t' b1 b2 k3 c3 k4 c4 X' Y' _ (HA.out.2.2.1.kept (HV.out _ (Kept.refl _).drew).2.2.2) (HA.out.2.2.2.1.kept (HV.out _ (Kept.refl _).drew).2.2.2) (by have:=HL.out.1; omega)).mono ?_; rintro e w1 ⟨hk1,v1,rfl,s3,a3,k3',c3',t3,a4,k4',c4',rfl,n3,n4,l3,l4⟩; have K1:=(Kept.refl W).drew.trans hk1; have H1':Hid (D.NIs w1 s3 (.slice a3 k3' c3') (-X')∧D.NIs w1 t3 (.slice a4 k4' c4') Y'∧k3'≤300∧k4'≤300):=⟨n3,n4,by have:=HL.out.1; omega,by have:=HL.out.1; omega⟩; clear n3 n4 l3 l4; obtain ⟨⟨d0,d1,d2,d3⟩,d4,d5,d6,d7⟩:=frow_two (HV.out _ K1).1 (HV.out _ K1).2.1)
  | (go_at_call 80; refine (FPlus_any s t s3 t3 a1 a2 a3 a4 k1 c1 k2 c2 k3' c3' k4' c4' X Y (-X') Y' _ (HA.out.1.kept (HV.out _ K1).2.2.2) (HA.out.2.1.kept (HV.out _ K1).2.2.2) H1'.out.1 H1'.out.2.1 (by have h1:=HL.out.1; have h2:=H1'.out.2.2; omega) HL.out.2).mono ?_; rintro e w2 ⟨hk2,v2,N5,D5,rfl,⟨s5,a5,k5,c5,t5,a6,k6,c6,rfl,n5,n6,l5,l6⟩,hL5⟩; have K2:=K1.trans hk2; have H5:=hid' (And.intro n5 (And.intro n6 (And.intro l5 (And.intro l6 hL5)))); clear n5 n6 l5 l6 hL5; obtain ⟨⟨g0,g1,g2,g3⟩,g4,g5,g6,g7⟩:=frow_two (HV.out _ K2).1 (HV.out _ K2).2.1; have z4:=(HV.out _ K2).2.2.1; have e0:=z4.c0; have e1:=z4.c1; have e2:=z4.c2; have e3:=z4.c3; have y0:=z4.fz 0; have y1:=z4.fz 1; have y2:=z4.fz 2; have y3:=z4.fz 3))
 have HZ:=hid' (And.intro z4 (HV.out _ K2).2.2.2)
 clear q0' q1' q2' q3' q4' q5' q6' q7' d0 d1 d2 d3 d4 d5 d6 d7 g0 g1 g2 g3 g4 g5 g6 g7 hk1 hk2 K1 K2 HV z4
 go_wp2
 refine bodyPost_ret (v:=.agg #[.bool s5,.slice a5 k5 c5,.bool t5,.slice a6 k6 c6]) (by simp [results,Tryz.results81,go_sem,e0,e1,e2,e3]) rfl ⟨Kept.put4 HZ.out.2 HP.out _ _ _ _,_,N5,D5,rfl,⟨s5,a5,k5,c5,t5,a6,k6,c6,rfl,nset4 H5.out.1 HZ.out.1,nset4 H5.out.2.1 HZ.out.1,H5.out.2.2.1,H5.out.2.2.2.1⟩,H5.out.2.2.2.2⟩
end F
end Go.Proofs.YtgofinhnlcbafaaGreat
