/- Calls of shuntref02 told by any numerator and denominator. -/
import Derived.Test.YtgofinhnlcbafaaGreatGaw
import Derived.Test.YtgofinhnlcbafaaGreatGat
import Derived.Test.YtgofinhnlcbafaaGreatGaw
namespace Go.Proofs.YtgofinhnlcbafaaGreat
open Go.RowKit
namespace V
open Q (okN okN_bd Scl hid')
theorem nis_short {w:World} {s:Bool} {ao:Option Addr} {k c:Nat} {z:Int} (h:D.NIs w s (.slice ao k c) z) (hz:z.natAbs≤10 ^ 100):k≤100:=by
 obtain ⟨l,h1,h2,rfl⟩:=h
 have e:=h1.len
 subst e
 rw [D.natAbs_int] at hz
 apply Classical.byContradiction
 intro hk
 have h3:=D.val_ge h2.tr (fun e => by rw [e] at hk; simp at hk)
 have h4:65536 ^ 100≤65536 ^ (l.length - 1):=Nat.pow_le_pow_right (by decide) (by omega)
 have h5:(10:Nat) ^ 100 < 65536 ^ 100:=by decide
 exact absurd (Nat.le_trans h4 (Nat.le_trans h3 hz)) (by omega)
def FT (w:World) (v:Value) (A:Int) (S:Nat):Prop:=∃ N D:Int,F.FIs w v N D 100 100∧0 < D∧Nat.gcd N.natAbs D.natAbs = 1∧N * (S:Int) = A * D
theorem FT.kept {w w':World} {v:Value} {A:Int} {S:Nat} (h:FT w v A S) (k:Kept w w'):FT w' v A S:=by
 obtain ⟨N,D,h1,h2⟩:=h
 exact ⟨N,D,h1.kept k,h2⟩
theorem FT.scale {w:World} {v:Value} {A:Int} {S:Nat} (h:FT w v A S) (c:Nat):FT w v (A * c) (S * c):=by
 obtain ⟨N,D,h1,h2,h3,h4⟩:=h
 refine ⟨N,D,h1,h2,h3,?_⟩
 rw [Int.natCast_mul,← Int.mul_assoc,h4,Int.mul_right_comm]
theorem ft_of_low {w:World} {v:Value} {X Y N D A:Int} {S k k':Nat} (h:F.FIs w v N D k k') (hl:F.Low X Y N D) (hY:Y ≠ 0) (hS:0 < S) (he:X * (S:Int) = A * Y) (hA:A.natAbs≤10 ^ 100) (hB:S≤10 ^ 100):FT w v A S:=by
 have e:N * (S:Int) = A * D:=by
  apply Int.eq_of_mul_eq_mul_right hY
  calc N * S * Y = N * Y * S:=Int.mul_right_comm _ _ _
   _ = X * D * S:=by rw [hl.eq]
   _ = X * S * D:=Int.mul_right_comm _ _ _
   _ = A * Y * D:=by rw [he]
   _ = A * D * Y:=Int.mul_right_comm _ _ _
 have hD:(D.natAbs:Int) = D:=Int.natAbs_of_nonneg (by have:=hl.pos; omega)
 have hb:=low_bd (N:=N) (A:=A) (D:=D.natAbs) (S:=S) hl.low hS (by rw [hD]; exact e)
 obtain ⟨s,ao,n,c,t,ap,n',c',rfl,h1,h2,_,_⟩:=h
 exact ⟨N,D,⟨s,ao,n,c,t,ap,n',c',rfl,h1,h2,nis_short h1 (Nat.le_trans hb.1 hA),nis_short h2 (Nat.le_trans hb.2 hB)⟩,hl.pos,hl.low,e⟩
section
variable {v v':Value} {A A':Int} {S T:Nat} (w:World)
theorem ft_plus (h:FT w v A S) (h':FT w v' A' S) (hS:0 < S) (hA:(A + A').natAbs≤10 ^ 100) (hB:S≤10 ^ 100) :
  Calls Tryz.prog 80 #[v,v'] w fun e w' => Kept w w'∧∃ u,e = .returned u∧FT w' u (A + A') S:=by
 obtain ⟨N,D,⟨s,a1,k1,c1,t,a2,k2,c2,rfl,n1,n2,l1,l2⟩,p,_,e⟩:=h
 obtain ⟨N',D',⟨s',b1,k3,c3,t',b2,k4,c4,rfl,n3,n4,l3,l4⟩,p',_,e'⟩:=h'
 have hy:D * D' ≠ 0:=Int.mul_ne_zero (by omega) (by omega)
 refine (F.FPlus_any s t s' t' a1 a2 b1 b2 k1 c1 k2 c2 k3 c3 k4 c4 N D N' D' w n1 n2 n3 n4 (by omega) hy).mono ?_
 rintro e0 w' ⟨hk,u,X,Y,rfl,hF,hL⟩
 refine ⟨hk,u,rfl,ft_of_low hF hL hy hS ?_ hA hB⟩
 calc (N * D' + N' * D) * S = N * S * D' + N' * S * D:=by simp only [Int.add_mul]; simp only [Int.mul_right_comm]
  _ = A * D * D' + A' * D' * D:=by rw [e,e']
  _ = (A + A') * (D * D'):=by simp only [Int.add_mul,Int.mul_assoc,Int.mul_comm D']
theorem ft_less (h:FT w v A S) (h':FT w v' A' S) (hS:0 < S) (hA:(A - A').natAbs≤10 ^ 100) (hB:S≤10 ^ 100) :
  Calls Tryz.prog 81 #[v,v'] w fun e w' => Kept w w'∧∃ u,e = .returned u∧FT w' u (A - A') S:=by
 obtain ⟨N,D,⟨s,a1,k1,c1,t,a2,k2,c2,rfl,n1,n2,l1,l2⟩,p,_,e⟩:=h
 obtain ⟨N',D',⟨s',b1,k3,c3,t',b2,k4,c4,rfl,n3,n4,l3,l4⟩,p',_,e'⟩:=h'
 have hy:D * D' ≠ 0:=Int.mul_ne_zero (by omega) (by omega)
 refine (F.FLess_any s t s' t' a1 a2 b1 b2 k1 c1 k2 c2 k3 c3 k4 c4 N D N' D' w n1 n2 n3 n4 (by omega) hy).mono ?_
 rintro e0 w' ⟨hk,u,X,Y,rfl,hF,hL⟩
 refine ⟨hk,u,rfl,ft_of_low hF hL hy hS ?_ hA hB⟩
 calc (N * D' + -N' * D) * S = N * S * D' - N' * S * D:=by rw [Int.neg_mul,← Int.sub_eq_add_neg,Int.sub_mul]; simp only [Int.mul_right_comm]
  _ = A * D * D' - A' * D' * D:=by rw [e,e']
  _ = (A - A') * (D * D'):=by simp only [Int.sub_mul,Int.mul_assoc,Int.mul_comm D']
theorem ft_times (h:FT w v A S) (h':FT w v' A' T) (hS:0 < S) (hT:0 < T) (hA:(A * A').natAbs≤10 ^ 100) (hB:S * T≤10 ^ 100) :
  Calls Tryz.prog 48 #[v,v'] w fun e w' => Kept w w'∧∃ u,e = .returned u∧FT w' u (A * A') (S * T):=by
 obtain ⟨N,D,⟨s,a1,k1,c1,t,a2,k2,c2,rfl,n1,n2,l1,l2⟩,p,_,e⟩:=h
 obtain ⟨N',D',⟨s',b1,k3,c3,t',b2,k4,c4,rfl,n3,n4,l3,l4⟩,p',_,e'⟩:=h'
 have hy:D * D' ≠ 0:=Int.mul_ne_zero (by omega) (by omega)
 refine (F.FTimes_any s t s' t' a1 a2 b1 b2 k1 c1 k2 c2 k3 c3 k4 c4 N D N' D' w n1 n2 n3 n4 (by omega) (by omega) (by omega) (by omega)).mono ?_
 rintro e0 w' ⟨hk,u,X,Y,rfl,hF,hL⟩
 refine ⟨hk,u,rfl,ft_of_low hF hL hy (Nat.mul_pos hS hT) ?_ hA hB⟩
 rw [Int.natCast_mul]
 calc N * N' * ((S:Int) * T) = N * S * (N' * T):=by simp only [Int.mul_assoc,Int.mul_left_comm]
  _ = A * D * (A' * D'):=by rw [e,e']
  _ = A * A' * (D * D'):=by simp only [Int.mul_assoc,Int.mul_left_comm]
theorem ft_over (h:FT w v A 1) (h':FT w v' (T:Int) 1) (hT:0 < T) (hA:A.natAbs≤10 ^ 100) (hB:T≤10 ^ 100) :
  Calls Tryz.prog 79 #[v,v'] w fun e w' => Kept w w'∧∃ u,e = .returned u∧FT w' u A T:=by
 obtain ⟨N,D,⟨s,a1,k1,c1,t,a2,k2,c2,rfl,n1,n2,l1,l2⟩,p,_,e⟩:=h
 obtain ⟨N',D',⟨s',b1,k3,c3,t',b2,k4,c4,rfl,n3,n4,l3,l4⟩,p',_,e'⟩:=h'
 simp only [Int.natCast_one,Int.mul_one] at e e'
 have hn:N' ≠ 0:=by rw [e']; exact Int.mul_ne_zero (by omega) (by omega)
 have hy:D * N' ≠ 0:=Int.mul_ne_zero (by omega) hn
 refine (F.FOver_any s t s' t' a1 a2 b1 b2 k1 c1 k2 c2 k3 c3 k4 c4 N D N' D' w n1 n2 n3 n4 (by omega) hy).mono ?_
 rintro e0 w' ⟨hk,u,X,Y,rfl,hF,hL⟩
 refine ⟨hk,u,rfl,ft_of_low hF hL hy hT ?_ hA hB⟩
 rw [e,e']
 simp only [Int.mul_assoc,Int.mul_comm D']
theorem ft_int (z:Int) (h:z.natAbs≤1000000000):Calls Tryz.prog 49 #[.int .i64 z] w fun e w' => Kept w w'∧∃ u,e = .returned u∧FT w' u z 1:=by
 refine (Q.fof_any z (by omega) (by omega) w).mono ?_
 rintro e w' ⟨hk,u,rfl,s,ao,n,c,t,ap,n',c',rfl,h1,h2,h3,h4⟩
 exact ⟨hk,_,rfl,z,1,⟨s,ao,n,c,t,ap,n',c',rfl,h1,h2,by omega,by omega⟩,by decide,Nat.gcd_one_right _,rfl⟩
theorem ft_num (m x:Int) (h:okN m x = true):Calls Tryz.prog 50 #[.agg #[.int .i64 m,.int .i64 x]] w fun e w' => Kept w w'∧∃ u,e = .returned u∧FT w' u (U m x) (10 ^ 18):=by
 have hb:=okN_bd h
 refine (Q.of_any m x (by omega) (by omega) (by omega) (by omega) w).mono ?_
 rintro e w' ⟨hk,u,N,D,rfl,⟨s,ao,n,c,t,ap,n',c',rfl,h1,h2,h3,h4⟩,hs⟩
 have e1:=scl_u hb.2.2.1 hs
 have hbd:=low_bd hs.2.1 (by decide) e1
 have hu:=u_bd h
 have h36:(10:Nat) ^ 36≤10 ^ 100:=by decide
 have h18:(10:Nat) ^ 18≤10 ^ 100:=by decide
 exact ⟨hk,_,rfl,N,D,⟨s,ao,n,c,t,ap,n',c',rfl,h1,h2,nis_short h1 (by omega),nis_short h2 (by rw [Int.natAbs_natCast]; omega)⟩,by have:=hs.1; omega,by rw [Int.natAbs_natCast]; exact hs.2.1,e1⟩
theorem ft_billion (h:FT w v A S) (hS:0 < S) (hA:(A * 1000000000).natAbs≤10 ^ 100) (hB:S≤10 ^ 100) :
  Calls Tryz.prog 26 #[v] w fun e w' => Kept w w'∧∃ u,e = .returned u∧FT w' u (A * 1000000000) S:=by
 obtain ⟨N,D,⟨s,a1,k1,c1,t,a2,k2,c2,rfl,n1,n2,l1,l2⟩,p,_,e⟩:=h
 refine (Q.billion_any s t a1 a2 k1 c1 k2 c2 N D w n1 n2 (by omega) (by omega) (by omega)).mono ?_
 rintro e0 w' ⟨hk,u,X,Y,rfl,hF,hL⟩
 refine ⟨hk,u,rfl,ft_of_low hF hL (by omega) hS ?_ hA hB⟩
 rw [Int.mul_right_comm,e,Int.mul_right_comm]
theorem ft_grid (h:FT w v A S) (hS:0 < S) :
  Calls Tryz.prog 25 #[v] w fun e w' => Kept w w'∧e = .returned (.tuple #[.int .i64 (F.gridV (F.near A S)),.int .i64 (F.gridE (F.near A S))]):=by
 obtain ⟨N,D,⟨s,a1,k1,c1,t,a2,k2,c2,rfl,n1,n2,l1,l2⟩,p,_,e⟩:=h
 refine (F.Grid_any s t a1 a2 k1 c1 k2 c2 N D w n1 n2 (by omega) (by omega) p).mono ?_
 rintro e0 w' ⟨hk,rfl⟩
 have hD:(D.toNat:Int) = D:=Int.toNat_of_nonneg (by omega)
 rw [near_eq (x:=N) (y:=D.toNat) (x':=A) (y':=S) (by omega) hS (by rw [hD]; exact e)]
 exact ⟨hk,rfl⟩
end
end V
end Go.Proofs.YtgofinhnlcbafaaGreat
