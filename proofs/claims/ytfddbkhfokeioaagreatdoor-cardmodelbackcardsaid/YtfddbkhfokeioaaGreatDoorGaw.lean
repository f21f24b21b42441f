/- num.Grid. Fractions told by any numerator and denominator: near of them; numbers in units of ten to the power -18. num.Value, num.Cmp. Calls of rat told by any numerator and denominator. shuntref03.power. shuntref03.Of. shuntref02.Of, shuntref03.Billion. What a wave says, told by its kind, its values and its steps; its corners. Calls of shuntref02 told by any numerator and denominator. -/
import Derived.Test.YtfddbkhfokeioaaGreatDoorGav
import Derived.Test.YtfddbkhfokeioaaGreatDoorGao
import Derived.Test.YtfddbkhfokeioaaGreatDoorGan
import Derived.Test.YtfddbkhfokeioaaGreatDoorRwhole
import Derived.Test.YtfddbkhfokeioaaGreatDoorGaj
import Derived.Test.YtfddbkhfokeioaaGreatDoorRset2
import Derived.Test.YtfddbkhfokeioaaGreatDoorGau
import Derived.Test.YtfddbkhfokeioaaGreatDoorGai
import Derived.Test.YtfddbkhfokeioaaGreatDoorVb
namespace Go.Proofs.YtfddbkhfokeioaaGreatDoor
open Go.RowKit
namespace Q
theorem okN_bd {m x:Int} (h:okN m x = true):-999999999≤m∧m≤999999999∧-18≤x∧x≤9:=by
 rcases okN_iff.1 h with ⟨rfl,rfl⟩ | ⟨_,h1,h2,_,h4,h5⟩
 ·
  decide
 ·
  exact ⟨h1,h2,h4,h5⟩
def Scl (m x N:Int) (D:Nat):Prop:=0 < D∧Nat.Coprime N.natAbs D∧N * (10 ^ (-x).toNat:Nat) = m * (10 ^ x.toNat:Nat) * D
def GridIs (e:Ending) (m x:Int):Prop :=
 (okN m x = false∧e = .returned (.tuple #[.int .i64 0,.int .i64 30])) ∨ (okN m x = true∧∃ N D,Scl m (x + 9) N D∧e = .returned (.tuple #[.int .i64 (F.gridV (F.near N D)),.int .i64 (F.gridE (F.near N D))]))
end Q
end Go.Proofs.YtfddbkhfokeioaaGreatDoor

namespace Go.Proofs.YtfddbkhfokeioaaGreatDoor
open Go.RowKit
namespace V
open Q (okN okN_bd Scl)
def U (m x:Int):Int:=m * ((10 ^ (x + 18).toNat:Nat):Int)
theorem scl_u {m x N:Int} {D:Nat} (hx:-18≤x) (h:Scl m x N D):N * ((10 ^ 18:Nat):Int) = U m x * D:=by
 obtain ⟨_,_,e⟩:=h
 unfold U
 by_cases h0:0≤x
 ·
  have e1:(-x).toNat = 0:=by omega
  have e2:(x + 18).toNat = x.toNat + 18:=by omega
  rw [e1] at e
  rw [e2,Nat.pow_add,Int.natCast_mul,← Int.mul_assoc,Int.mul_right_comm (m * _),← e]
  simp
 ·
  have e1:x.toNat = 0:=by omega
  have e2:10 ^ 18 = 10 ^ (-x).toNat * 10 ^ (x + 18).toNat:=by rw [← Nat.pow_add]; congr 1; omega
  rw [e1] at e
  rw [e2,Int.natCast_mul,← Int.mul_assoc,e]
  simp only [Nat.pow_zero,Int.natCast_one,Int.mul_one]
  rw [Int.mul_right_comm]
theorem u_bd {m x:Int} (h:okN m x = true):(U m x).natAbs≤10 ^ 36:=by
 obtain ⟨h1,h2,h3,h4⟩:=okN_bd h
 unfold U
 rw [Int.natAbs_mul,Int.natAbs_natCast]
 have e1:m.natAbs≤10 ^ 9:=by omega
 have e2:10 ^ (x + 18).toNat≤10 ^ 27:=Nat.pow_le_pow_right (by decide) (by omega)
 calc m.natAbs * 10 ^ (x + 18).toNat≤10 ^ 9 * 10 ^ 27:=Nat.mul_le_mul e1 e2
  _ = 10 ^ 36:=by decide
theorem low_bd {N A:Int} {D S:Nat} (hc:Nat.Coprime N.natAbs D) (hS:0 < S) (h:N * (S:Int) = A * D):N.natAbs≤A.natAbs∧D≤S:=by
 have e:=congrArg Int.natAbs h
 rw [Int.natAbs_mul,Int.natAbs_mul,Int.natAbs_natCast,Int.natAbs_natCast] at e
 constructor
 ·
  have hd:N.natAbs ∣ A.natAbs:=hc.dvd_of_dvd_mul_right (by rw [← e]; exact Nat.dvd_mul_right _ _)
  rcases Nat.eq_zero_or_pos A.natAbs with h0 | h0
  ·
   rw [h0,Nat.zero_mul] at e
   rcases Nat.mul_eq_zero.1 e with h1 | h1
   ·
    omega
   ·
    omega
  ·
   exact Nat.le_of_dvd h0 hd
 ·
  have hd:D ∣ S:=hc.symm.dvd_of_dvd_mul_left (by rw [e]; exact Nat.dvd_mul_left _ _)
  exact Nat.le_of_dvd hS hd
end V
end Go.Proofs.YtfddbkhfokeioaaGreatDoor

namespace Go.Proofs.YtfddbkhfokeioaaGreatDoor
open Go.RowKit
namespace Q
def ValIs (B:Nat) (w':World) (e:Ending) (m x:Int):Prop :=
 (okN m x = false∧e = .returned (.tuple #[.agg #[.bool false,.slice none 0 0,.bool false,.slice none 0 0],.int .i64 30])) ∨ (okN m x = true∧∃ v N D,e = .returned (.tuple #[v,.int .i64 0])∧RQ B w' v N D∧Scl m x N D)
def CmpIs (e:Ending) (m x m' x':Int):Prop :=
 (¬ (okN m x = true∧okN m' x' = true)∧e = .returned (.tuple #[.int .i64 0,.int .i64 30])) ∨ ((okN m x = true∧okN m' x' = true)∧∃ (N:Int) (D:Nat) (N':Int) (D':Nat),Scl m x N D∧Scl m' x' N' D'∧e = .returned (.tuple #[.int .i64 (isgn (N * D') (N' * D)),.int .i64 0]))
set_option maxRecDepth 100000 in
set_option maxHeartbeats 8000000 in
theorem cmp_any (m x m' x':Int) (w:World):Calls Tryz.prog 114 #[.agg #[.int .i64 m,.int .i64 x],.agg #[.int .i64 m',.int .i64 x']] w fun e w' => Kept w w'∧CmpIs e m x m' x':=by
 go_enter Tryz.func114,Tryz.ntmps114
 go_upto_region 1 with fail
 have hK:=((Kept.refl w).alloc (.cells #[.int .i64 m,.int .i64 x] 26)).alloc (.cells #[.int .i64 m',.int .i64 x'] 26)
 have hR2:=(Row2.alloc 26 w (.int .i64 m) (.int .i64 x)).kept ((Kept.refl _).alloc (.cells #[.int .i64 m',.int .i64 x'] 26))
 have hR3:=Row2.alloc 26 (w.alloc (.cells #[.int .i64 m,.int .i64 x] 26)) (.int .i64 m') (.int .i64 x')
 rw [World.size_alloc] at hR3
 generalize (w.alloc (.cells #[.int .i64 m,.int .i64 x] 26)).alloc (.cells #[.int .i64 m',.int .i64 x'] 26) = W at hK hR2 hR3 ⊢
 obtain ⟨p3,hp3⟩:∃ p,p = w.heap.size + 1:=⟨_,rfl⟩
 rw [← hp3] at hR3 ⊢
 obtain ⟨p2,hp2⟩:∃ p,p = w.heap.size:=⟨_,rfl⟩
 rw [← hp2] at hR2 ⊢
 have HK:=hid' hK
 have HR2:=hid' hR2
 have HR3:=hid' hR3
 obtain ⟨q0,q1,q2,q3⟩:=hR2.all
 clear hp2 hp3 hK hR2 hR3
 go_wp2_with fail
 refine (Valid_any m x _).mono ?_
 rintro e w1 ⟨hk1,rfl⟩
 have HK1:=hid' hk1
 clear hk1 q0 q1 q2 q3
 by_cases ho:okN m x = true
 ·
  have hb:=okN_bd ho
  rw [ho]
  have HO:=hid' ho
  clear ho
  obtain ⟨q0,q1,q2,q3⟩:=(HR3.out.kept HK1.out).all
  go_wp2_with fail
  refine (Valid_any m' x' _).mono ?_
  rintro e w2 ⟨hk2,rfl⟩
  have HK2:=hid' (HK1.out.trans hk2)
  clear hk2 q0 q1 q2 q3
  by_cases ho':okN m' x' = true
  ·
   have hb':=okN_bd ho'
   rw [ho']
   have HO':=hid' ho'
   clear ho'
   go_upto_region 3 with fail
   obtain ⟨q0,q1,q2,q3⟩:=(HR2.out.kept HK2.out).all
   obtain ⟨r0,r1,r2,r3⟩:=(HR3.out.kept HK2.out).all
   go_region_held3 (fun w' => w'.cell? ⟨p2,0,none⟩ = some (.int .i64 m)∧w'.cell? ⟨p2,1,none⟩ = some (.int .i64 x)∧w'.cell? ⟨p3,0,none⟩ = some (.int .i64 m')∧w'.cell? ⟨p3,1,none⟩ = some (.int .i64 x')) (go_keep) (first
    | (go_at_call_of 131 (Value.int .i64 m); refine (scaled_any m x (by omega) (by omega) (by omega) (by omega) _).mono ?_; rintro e w3 ⟨hk3,v3,N3,D3,rfl,hq3,he3⟩; have HS3:Hid (Scl m x N3 D3):=⟨hq3.low.1,hq3.low.2,he3⟩; obtain ⟨s,ao,ap,k,c,k',c',l,l',rfl,n1,n2,r,rfl,rfl⟩:=hq3; have H3:=hid' (And.intro n1.sl (And.intro n2.sl r)); have K3:=HK2.out.trans ((Kept.refl w2).drew.trans hk3); have a0:=(HR2.out.kept K3).c0; have a1:=(HR2.out.kept K3).c1; have a2:=(HR3.out.kept K3).c0; have a3:=(HR3.out.kept K3).c1; clear n1 n2 r he3)
    | (go_at_call_of 131 (Value.int .i64 m'); refine (scaled_any m' x' (by omega) (by omega) (by omega) (by omega) _).mono ?_; rintro e w4 ⟨hk4,v4,N4,D4,rfl,hq4,he4⟩; have HS4:Hid (Scl m' x' N4 D4):=⟨hq4.low.1,hq4.low.2,he4⟩; obtain ⟨s4,ao4,ap4,k4,c4,k4',c4',l4,l4',rfl,n1,n2,r,rfl,rfl⟩:=hq4; have H4:=hid' (And.intro n1.sl (And.intro n2.sl (And.intro r hk4))); have K4:=K3.trans hk4; have b0:=(HR2.out.kept K4).c0; have b1:=(HR2.out.kept K4).c1; have b2:=(HR3.out.kept K4).c0; have b3:=(HR3.out.kept K4).c1; clear n1 n2 r he4)
    | (go_at_call 130; refine (F.Cmp_ok s false s4 false ao ap ao4 ap4 k c k' c' k4 c4 k4' c4' l l' l4 l4' _ (H3.out.1.kept H4.out.2.2.2) (H3.out.2.1.kept H4.out.2.2.2) H4.out.1 H4.out.2.1 H3.out.2.2 H4.out.2.2.1).mono ?_; rintro e w5 ⟨rfl,hk5⟩; have K5:=K4.trans hk5; have d0:=(HR2.out.kept K5).c0; have d1:=(HR2.out.kept K5).c1; have d2:=(HR3.out.kept K5).c0; have d3:=(HR3.out.kept K5).c1))
   have HK5:=hid' (HK.out.trans K5)
   clear K3 K4 K5 hk3 hk4 hk5 q0 q1 q2 q3 r0 r1 r2 r3 a0 a1 a2 a3 b0 b1 b2 b3 d0 d1 d2 d3
   generalize hgi:isgn (M.int s l * M.val l4') (M.int s4 l4 * M.val l') = gi
   have HGI:=hid' hgi
   clear hgi
   go_wp2
   go_ret2
   exact ⟨HK5.out,.inr ⟨⟨HO.out,HO'.out⟩,_,_,_,_,HS3.out,HS4.out,by rw [HGI.out]; rfl⟩⟩
  ·
   have ho':okN m' x' = false:=by simpa using ho'
   rw [ho']
   have HO':=hid' ho'
   clear ho'
   go_wp2
   go_ret2
   exact ⟨HK.out.trans HK2.out,.inl ⟨fun hh => absurd (HO'.out.symm.trans hh.2) (by decide),rfl⟩⟩
 ·
  have ho:okN m x = false:=by simpa using ho
  rw [ho]
  have HO:=hid' ho
  clear ho
  go_wp2
  go_ret2
  exact ⟨HK.out.trans HK1.out,.inl ⟨fun hh => absurd (HO.out.symm.trans hh.1) (by decide),rfl⟩⟩
end Q
end Go.Proofs.YtfddbkhfokeioaaGreatDoor

namespace Go.Proofs.YtfddbkhfokeioaaGreatDoor
open Go.RowKit
namespace V
open Q (okN okN_bd Scl RQ hid')
def RT (B:Nat) (w:World) (v:Value) (A:Int) (S:Nat):Prop:=∃ N D,RQ B w v N D∧N * (S:Int) = A * D
theorem RT.kept {B:Nat} {w w':World} {v:Value} {A:Int} {S:Nat} (h:RT B w v A S) (k:Kept w w'):RT B w' v A S:=by
 obtain ⟨N,D,h1,h2⟩:=h
 exact ⟨N,D,h1.kept k,h2⟩
theorem RT.mono {B B':Nat} {w:World} {v:Value} {A:Int} {S:Nat} (h:RT B w v A S) (k:B'≤B):RT B' w v A S:=by
 obtain ⟨N,D,h1,h2⟩:=h
 exact ⟨N,D,h1.mono k,h2⟩
theorem RT.shape {B:Nat} {w:World} {v:Value} {A:Int} {S:Nat} (h:RT B w v A S):∃ (s:Bool) (ao ap:Option Addr) (k c k' c':Nat),v = .agg #[.bool s,.slice ao k c,.bool false,.slice ap k' c']:=by
 obtain ⟨N,D,⟨s,ao,ap,k,c,k',c',l,l',rfl,_⟩,_⟩:=h
 exact ⟨_,_,_,_,_,_,_,rfl⟩
theorem hW:(10:Nat) ^ 200 < M.W72:=by unfold M.W72; decide
end V
end Go.Proofs.YtfddbkhfokeioaaGreatDoor

namespace Go.Proofs.YtfddbkhfokeioaaGreatDoor
open Go.RowKit
namespace Q
structure P2 (w wr:World) (p2 p3:Nat) (sg:Bool) (ao:Option Addr) (k cap:Nat) (z:Int):Prop where
 kp:Kept w wr
 r2:Row2 87 wr p2 (.bool false) (.slice none 0 0)
 r3:Row2 87 wr p3 (.bool sg) (.slice ao k cap)
 na:D.NIs wr sg (.slice ao k cap) z
 p2w:w.heap.size≤p2
 p3w:w.heap.size≤p3
 ne:¬ p2 = p3
theorem P2.kept {w wr wr':World} {p2 p3:Nat} {sg:Bool} {ao:Option Addr} {k cap:Nat} {z:Int} (h:P2 w wr p2 p3 sg ao k cap z) (q:Kept wr wr'):P2 w wr' p2 p3 sg ao k cap z :=
 ⟨h.kp.trans q,h.r2.kept q,h.r3.kept q,h.na.kept q,h.p2w,h.p3w,h.ne⟩
theorem P2.put {w wr:World} {p2 p3:Nat} {sg:Bool} {ao:Option Addr} {k cap:Nat} {z:Int} (h:P2 w wr p2 p3 sg ao k cap z) {sg':Bool} {ao':Option Addr} {k' cap':Nat} {z':Int} (hn:D.NIs wr sg' (.slice ao' k' cap') z') :
  P2 w ((wr.setCell ⟨p3,0,none⟩ (.bool sg')).setCell ⟨p3,1,none⟩ (.slice ao' k' cap')) p2 p3 sg' ao' k' cap' z' :=
 ⟨Kept.put2 h.kp h.p3w _ _,h.r2.far h.ne _ _,h.r3.set2 _ _,hn.box2 h.r3.c0 h.r3.c1 _ _,h.p2w,h.p3w,h.ne⟩
def NE (w:World) (e:Ending) (z:Int) (kk:Nat):Prop:=∃ s ao k cap,e = .returned (.agg #[.bool s,.slice ao k cap])∧D.NIs w s (.slice ao k cap) z∧k≤kk
def pw (n:Nat):Int:=((10 ^ n:Nat):Int)
theorem pw_succ (n:Nat):pw (n + 1) = pw n * 10:=by unfold pw; rw [Nat.pow_succ,Int.natCast_mul]; rfl
theorem pw_pos (n:Nat):0 < pw n:=by unfold pw; have:=Nat.pow_pos (n:=n) (show 0 < 10 by decide); omega
set_option maxRecDepth 100000 in
set_option maxHeartbeats 8000000 in
theorem rpower_any (n:Nat) (hn:n≤100) (w:World) :
  Calls Tryz.prog 92 #[.int .i64 (n:Int)] w fun e w' => Kept w w'∧NE w' e (pw n) (n + 1):=by
 go_enter Tryz.func92,Tryz.ntmps92
 go_wp2_with fail
 refine (D.small_num 1 _ (by omega) (by omega)).mono ?_
 rintro e w1 ⟨hk1,ao1,k1,c1,rfl,n1,l1⟩
 go_wp2_with fail
 have hA:Kept w1 (w1.alloc (.cells #[.bool false,.slice ao1 k1 c1] 87)):=(Kept.refl w1).alloc _
 have hlt:w.heap.size < w1.heap.size:=by have:=hk1.size; simp at this; omega
 have hP:P2 w (w1.alloc (.cells #[.bool false,.slice ao1 k1 c1] 87)) w.heap.size w1.heap.size false ao1 k1 c1 1 :=
  ⟨(((Kept.refl w).alloc _).trans hk1).trans hA,((Row2.alloc 87 w (.bool false) (.slice none 0 0)).kept hk1).kept hA,Row2.alloc 87 w1 (.bool false) (.slice ao1 k1 c1),n1.kept hA,Nat.le_refl _,by omega,by omega⟩
 generalize w1.alloc (.cells #[.bool false,.slice ao1 k1 c1] 87) = W at hP hA ⊢
 obtain ⟨p3,hp3⟩:∃ p,p = w1.heap.size:=⟨_,rfl⟩
 rw [← hp3] at hP ⊢
 obtain ⟨p2,hp2⟩:∃ p,p = w.heap.size:=⟨_,rfl⟩
 rw [← hp2] at hP ⊢
 have HP:=hid' hP
 clear hp2 hp3 hP hA hlt hk1 n1
 go_loopw [4] (fun vi wr => ∃ (j:Nat) (sg:Bool) (ao:Option Addr) (k cap:Nat),j≤n∧vi = .int .i64 (j:Int)∧Hid (P2 w wr p2 p3 sg ao k cap (pw j)∧k≤j + 1)) (fun vi _ => n - (intOf vi).toNat)
 case atStart => exact ⟨0,_,_,_,_,Nat.zero_le _,rfl,HP.out,by omega⟩
 case round =>
  obtain ⟨j,sg,ao,k,cap,hj,rfl,HI⟩:=hrel
  obtain ⟨q0,q1,q2,q3⟩:=HI.out.1.r3.all
  by_cases hlt:j < n
  ·
   have hji:(j:Int) < (n:Int):=by omega
   go_wp2_with fail
   go_region_with (first
    | (go_at_call 68; refine (D.small_num 10 _ (by omega) (by omega)).mono ?_; rintro e wC ⟨hkC,aoC,kC,cC,rfl,nC,lC⟩; have HC:=hid' (And.intro nC lC); have KC:=(Kept.refl wr).drew.trans hkC; obtain ⟨g0,g1,g2,g3⟩:=(HI.out.1.kept KC).r3.all; clear nC lC hkC)
    | (go_at_call 71; refine (D.Times_any sg false ao aoC k kC cap cC _ _ _ (HI.out.1.na.kept KC) HC.out.1 (by have:=HI.out.2; omega) (by have:=HC.out.2; omega)).mono ?_; rintro e wE ⟨hkE,sE,aoE,kE,cE,rfl,nE,lE⟩; have HE:=hid' (And.intro nE lE); have KE:=KC.trans hkE; obtain ⟨j0,j1,j2,j3⟩:=(HI.out.1.kept KE).r3.all; clear nE lE hkE))
   all_goals
    have HWE:=hid' (HI.out.1.kept KE)
    clear KC KE
    go_wp2_with fail
    go_roundw
    case rel => exact ⟨j + 1,sE,aoE,kE,cE,by omega,by go_num,HWE.out.put (by rw [pw_succ]; exact HE.out.1),by have h1:=HE.out.2; have h2:=HI.out.2; have h3:=HC.out.2; omega⟩
    case measure => show n - ((j:Int) + 1).toNat < n - (j:Int).toNat; omega
  ·
   obtain rfl:j = n:=by omega
   have hji:¬ (j:Int) < (j:Int):=by omega
   obtain ⟨d0,d1,d2,d3⟩:=HI.out.1.r2.all
   go_wp2_with fail
   refine bodyPost_ret (v:=.agg #[.bool sg,.slice ao k cap]) (by simp [results,Tryz.results92,go_sem,d0,d1]) rfl ⟨Kept.put2 HI.out.1.kp HI.out.1.p2w _ _,sg,ao,k,cap,rfl,HI.out.1.na.box2 HI.out.1.r2.c0 HI.out.1.r2.c1 _ _,HI.out.2⟩
end Q
end Go.Proofs.YtfddbkhfokeioaaGreatDoor

namespace Go.Proofs.YtfddbkhfokeioaaGreatDoor
open Go.RowKit
namespace Q
def FE (w:World) (e:Ending) (m x:Int):Prop:=∃ (v:Value) (N:Int) (D:Nat),e = .returned v∧F.FIs w v N (D:Int) 110 110∧Scl m x N D
theorem rpower_int (z:Int) (h0:0≤z) (h1:z≤100) (w:World):Calls Tryz.prog 92 #[.int .i64 z] w fun e w' => Kept w w'∧∃ s ao k cap,e = .returned (.agg #[.bool s,.slice ao k cap])∧D.NIs w' s (.slice ao k cap) (pw z.toNat)∧k≤101:=by
 obtain ⟨n,rfl⟩:=Int.eq_ofNat_of_zero_le h0
 refine (rpower_any n (by omega) w).mono ?_
 rintro e w' ⟨hk,s,ao,k,cap,rfl,hn,hl⟩
 exact ⟨hk,s,ao,k,cap,rfl,hn,by omega⟩
theorem scl_low {m x N D:Int} (hx:x < 0) (h:F.Low m (pw (-x).toNat) N D):Scl m x N D.toNat:=by
 refine ⟨by have:=h.pos; omega,?_,?_⟩
 ·
  show Nat.gcd _ _ = 1
  rw [show D.toNat = D.natAbs by have:=h.pos; omega]
  exact h.low
 ·
  rw [show x.toNat = 0 by omega,show ((D.toNat:Nat):Int) = D by have:=h.pos; omega]
  have:=h.eq
  unfold pw at this
  rw [this]
  simp
theorem scl_whole {m x:Int} (hx:0≤x):Scl m x (m * pw x.toNat) 1:=by
 refine ⟨by decide,by show Nat.gcd _ _ = 1; simp,?_⟩
 rw [show (-x).toNat = 0 by omega]
 unfold pw
 simp
set_option maxRecDepth 100000 in
set_option maxHeartbeats 8000000 in
theorem of_neg (m x:Int) (h1:-9223372036854775808≤m) (h2:m≤9223372036854775807) (hx:x < 0) (hx1:-50≤x) (w:World) :
  Calls Tryz.prog 53 #[.agg #[.int .i64 m,.int .i64 x]] w fun e w' => Kept w w'∧FE w' e m x:=by
 have HM:=hid' (And.intro h1 h2)
 clear h1 h2
 have hwr:IntKind.i64.wrap (-x) = -x:=wrap_i64' (by omega) (by omega)
 go_enter Tryz.func53,Tryz.ntmps53
 go_upto_region 1 with fail
 have r1:=(Row2.alloc 26 w (.int .i64 m) (.int .i64 x)).kept ((Kept.refl _).alloc (.cells #[.bool false,.slice none 0 0,.bool false,.slice none 0 0] 89))
 have r2:=F.FRow.alloc (w.alloc (.cells #[.int .i64 m,.int .i64 x] 26)) (.bool false) (.slice none 0 0) (.bool false) (.slice none 0 0)
 have hK:=((Kept.refl w).alloc (.cells #[.int .i64 m,.int .i64 x] 26)).alloc (.cells #[.bool false,.slice none 0 0,.bool false,.slice none 0 0] 89)
 simp only [World.size_alloc] at r2
 generalize (w.alloc (.cells #[.int .i64 m,.int .i64 x] 26)).alloc (.cells #[.bool false,.slice none 0 0,.bool false,.slice none 0 0] 89) = W at r1 r2 hK ⊢
 obtain ⟨p2,hp2⟩:∃ p,p = w.heap.size + 1:=⟨_,rfl⟩
 rw [← hp2] at r2 ⊢
 obtain ⟨p1,hp1⟩:∃ p,p = w.heap.size:=⟨_,rfl⟩
 rw [← hp1] at r1 ⊢
 have HP:Hid (w.heap.size≤p2):=by show _≤_; omega
 have n21:¬ p2 = p1:=by omega
 clear hp1 hp2
 have HR:=hid' (And.intro r1 (And.intro r2 hK))
 obtain ⟨q0,q1,q2,q3⟩:=r1.all
 clear r1 r2 hK
 go_wp2_with fail
 refine (D.wide_any m _ HM.out.1 HM.out.2).mono ?_
 rintro e w3 ⟨hk3,s3,a3,k3,c3,rfl,n3,l3⟩
 have HL:=hid' l3
 have R1:=HR.out.1.kept hk3
 have R2:=HR.out.2.1.kept hk3
 have RK:=HR.out.2.2.trans hk3
 have l1:=R1.lt
 have l2:=R2.lt
 clear q0 q1 q2 q3 l3 hk3
 go_upto_region 2 with fail
 have hA:Kept w3 (w3.alloc (.cells #[.bool s3,.slice a3 k3 c3] 87)):=(Kept.refl w3).alloc _
 have r3:=Row2.alloc 87 w3 (.bool s3) (.slice a3 k3 c3)
 have r1:=R1.kept hA
 have r2:=R2.kept hA
 have hK:=RK.trans hA
 have n3':=n3.kept hA
 clear R1 R2 RK n3 HR
 generalize w3.alloc (.cells #[.bool s3,.slice a3 k3 c3] 87) = V at r1 r2 r3 hK n3' ⊢
 obtain ⟨p3,hp3⟩:∃ p,p = w3.heap.size:=⟨_,rfl⟩
 rw [← hp3] at r3 ⊢
 have n23:¬ p2 = p3:=by omega
 have n13:¬ p1 = p3:=by omega
 have HV:Hid (∀ U,Kept V U→Row2 26 U p1 (.int .i64 m) (.int .i64 x)∧Row2 87 U p3 (.bool s3) (.slice a3 k3 c3)∧F.FRow U p2 (.bool false) (.slice none 0 0) (.bool false) (.slice none 0 0)∧Kept w U∧D.NIs U s3 (.slice a3 k3 c3) m∧True):=fun U hU => ⟨r1.kept hU,r3.kept hU,r2.kept hU,hK.trans hU,n3'.kept hU,trivial⟩
 obtain ⟨q0,q1,q2,q3⟩:=r1.all
 obtain ⟨q4,q5,q6,q7⟩:=r3.all
 clear hp3 r1 r2 r3 hK n3' l1 l2 hA q2 q3 q6 q7
 go_upto_region 3 with fail
 go_region_held3 (fun w' => w'.cell? ⟨p1,0,none⟩ = some (.int .i64 m)∧w'.cell? ⟨p1,1,none⟩ = some (.int .i64 x)∧w'.cell? ⟨p3,0,none⟩ = some (.bool s3)∧w'.cell? ⟨p3,1,none⟩ = some (.slice a3 k3 c3)) (go_keep) (first
  | (go_at_call 92; refine (rpower_int (-x) (by omega) (by omega) _).mono ?_; rintro e w4 ⟨hk4,s4,a4,k4,c4,rfl,n4,l4⟩; have K4:=(Kept.refl V).drew.trans hk4; have H4:=hid' (And.intro n4 l4); clear n4 l4; obtain ⟨d0,d1,_,_⟩:=(HV.out _ K4).1.all; obtain ⟨d2,d3,_,_⟩:=(HV.out _ K4).2.1.all)
  | (go_at_call 91; refine (F.Lowest_any s3 s4 a3 a4 k3 c3 k4 c4 m (pw (-x).toNat) _ (HV.out _ K4).2.2.2.2.1 H4.out.1 (by have:=HL.out; omega) (by have:=H4.out.2; omega) (by have:=pw_pos (-x).toNat; omega)).mono ?_; rintro e w5 ⟨hk5,v5,N5,D5,rfl,hF5,hL5⟩; obtain ⟨s5,a5,k5,c5,t5,a6,k6,c6,rfl,n5,n6,l5,l6⟩:=hF5; have K5:=K4.trans hk5; have H5:=hid' (And.intro n5 (And.intro n6 (And.intro l5 (And.intro l6 hL5)))); clear n5 n6 l5 l6 hL5; obtain ⟨g0,g1,_,_⟩:=(HV.out _ K5).1.all; obtain ⟨g2,g3,_,_⟩:=(HV.out _ K5).2.1.all; have z4:=(HV.out _ K5).2.2.1; have e0:=z4.c0; have e1:=z4.c1; have e2:=z4.c2; have e3:=z4.c3; have y0:=z4.fz 0; have y1:=z4.fz 1; have y2:=z4.fz 2; have y3:=z4.fz 3))
 have HZ:=hid' (And.intro z4 (HV.out _ K5).2.2.2.1)
 clear q0 q1 q4 q5 d0 d1 d2 d3 g0 g1 g2 g3 hk4 hk5 K4 K5 HV z4
 go_wp2
 refine bodyPost_ret (v:=.agg #[.bool s5,.slice a5 k5 c5,.bool t5,.slice a6 k6 c6]) (by simp [results,Tryz.results53,go_sem,e0,e1,e2,e3]) rfl ⟨F.Kept.put4 HZ.out.2 HP.out _ _ _ _,_,N5,D5.toNat,rfl,⟨s5,a5,k5,c5,t5,a6,k6,c6,rfl,F.nset4 H5.out.1 HZ.out.1,?_,by have h1:=H5.out.2.2.1; have h2:=HL.out; omega,by have h1:=H5.out.2.2.2.1; have h2:=H4.out.2; omega⟩,scl_low hx H5.out.2.2.2.2⟩
 rw [show ((D5.toNat:Nat):Int) = D5 by have:=H5.out.2.2.2.2.pos; omega]
 exact F.nset4 H5.out.2.1 HZ.out.1
set_option maxRecDepth 100000 in
set_option maxHeartbeats 8000000 in
theorem of_pos (m x:Int) (h1:-9223372036854775808≤m) (h2:m≤9223372036854775807) (hx:¬ x < 0) (hx1:x≤50) (w:World) :
  Calls Tryz.prog 53 #[.agg #[.int .i64 m,.int .i64 x]] w fun e w' => Kept w w'∧FE w' e m x:=by
 have HM:=hid' (And.intro h1 h2)
 clear h1 h2
 go_enter Tryz.func53,Tryz.ntmps53
 go_upto_region 1 with fail
 have r1:=(Row2.alloc 26 w (.int .i64 m) (.int .i64 x)).kept ((Kept.refl _).alloc (.cells #[.bool false,.slice none 0 0,.bool false,.slice none 0 0] 89))
 have r2:=F.FRow.alloc (w.alloc (.cells #[.int .i64 m,.int .i64 x] 26)) (.bool false) (.slice none 0 0) (.bool false) (.slice none 0 0)
 have hK:=((Kept.refl w).alloc (.cells #[.int .i64 m,.int .i64 x] 26)).alloc (.cells #[.bool false,.slice none 0 0,.bool false,.slice none 0 0] 89)
 simp only [World.size_alloc] at r2
 generalize (w.alloc (.cells #[.int .i64 m,.int .i64 x] 26)).alloc (.cells #[.bool false,.slice none 0 0,.bool false,.slice none 0 0] 89) = W at r1 r2 hK ⊢
 obtain ⟨p2,hp2⟩:∃ p,p = w.heap.size + 1:=⟨_,rfl⟩
 rw [← hp2] at r2 ⊢
 obtain ⟨p1,hp1⟩:∃ p,p = w.heap.size:=⟨_,rfl⟩
 rw [← hp1] at r1 ⊢
 have HP:Hid (w.heap.size≤p2):=by show _≤_; omega
 have n21:¬ p2 = p1:=by omega
 clear hp1 hp2
 have HR:=hid' (And.intro r1 (And.intro r2 hK))
 obtain ⟨q0,q1,q2,q3⟩:=r1.all
 clear r1 r2 hK
 go_wp2_with fail
 refine (D.wide_any m _ HM.out.1 HM.out.2).mono ?_
 rintro e w3 ⟨hk3,s3,a3,k3,c3,rfl,n3,l3⟩
 have HL:=hid' l3
 have R1:=HR.out.1.kept hk3
 have R2:=HR.out.2.1.kept hk3
 have RK:=HR.out.2.2.trans hk3
 have l1:=R1.lt
 have l2:=R2.lt
 clear q0 q1 q2 q3 l3 hk3
 go_upto_region 2 with fail
 have hA:Kept w3 (w3.alloc (.cells #[.bool s3,.slice a3 k3 c3] 87)):=(Kept.refl w3).alloc _
 have r3:=Row2.alloc 87 w3 (.bool s3) (.slice a3 k3 c3)
 have r1:=R1.kept hA
 have r2:=R2.kept hA
 have hK:=RK.trans hA
 have n3':=n3.kept hA
 clear R1 R2 RK n3 HR
 generalize w3.alloc (.cells #[.bool s3,.slice a3 k3 c3] 87) = V at r1 r2 r3 hK n3' ⊢
 obtain ⟨p3,hp3⟩:∃ p,p = w3.heap.size:=⟨_,rfl⟩
 rw [← hp3] at r3 ⊢
 have n23:¬ p2 = p3:=by omega
 have n13:¬ p1 = p3:=by omega
 have HV:Hid (∀ U,Kept V U→Row2 26 U p1 (.int .i64 m) (.int .i64 x)∧Row2 87 U p3 (.bool s3) (.slice a3 k3 c3)∧F.FRow U p2 (.bool false) (.slice none 0 0) (.bool false) (.slice none 0 0)∧Kept w U∧D.NIs U s3 (.slice a3 k3 c3) m∧True):=fun U hU => ⟨r1.kept hU,r3.kept hU,r2.kept hU,hK.trans hU,n3'.kept hU,trivial⟩
 obtain ⟨q0,q1,q2,q3⟩:=r1.all
 obtain ⟨q4,q5,q6,q7⟩:=r3.all
 clear hp3 r1 r2 r3 hK n3' l1 l2 hA q2 q3 q6 q7
 go_upto_region 4 with fail
 go_region_held3 (fun w' => w'.cell? ⟨p1,0,none⟩ = some (.int .i64 m)∧w'.cell? ⟨p1,1,none⟩ = some (.int .i64 x)∧w'.cell? ⟨p3,0,none⟩ = some (.bool s3)∧w'.cell? ⟨p3,1,none⟩ = some (.slice a3 k3 c3)) (go_keep) (first
  | (go_at_call 92; refine (rpower_int x (by omega) (by omega) _).mono ?_; rintro e w4 ⟨hk4,s4,a4,k4,c4,rfl,n4,l4⟩; have K4:=(Kept.refl V).drew.trans hk4; have H4:=hid' (And.intro n4 l4); clear n4 l4; obtain ⟨d0,d1,_,_⟩:=(HV.out _ K4).1.all; obtain ⟨d2,d3,_,_⟩:=(HV.out _ K4).2.1.all)
  | (go_at_call 71; refine (D.Times_any s3 s4 a3 a4 k3 k4 c3 c4 m (pw x.toNat) _ (HV.out _ K4).2.2.2.2.1 H4.out.1 (by have:=HL.out; omega) (by have:=H4.out.2; omega)).mono ?_; rintro e w5 ⟨hk5,s5,a5,k5,c5,rfl,n5,l5⟩; have K5:=K4.trans hk5; have H5:=hid' (And.intro n5 l5); clear n5 l5; obtain ⟨g0,g1,_,_⟩:=(HV.out _ K5).1.all; obtain ⟨g2,g3,_,_⟩:=(HV.out _ K5).2.1.all)
  | (go_at_call 68; refine (D.small_num 1 _ (by omega) (by omega)).mono ?_; rintro e w6 ⟨hk6,a6,k6,c6,rfl,n6,l6⟩; have K6:=K5.trans hk6; have H6:=hid' (And.intro n6 (And.intro l6 (H5.out.1.kept hk6))); clear n6 l6; obtain ⟨j0,j1,_,_⟩:=(HV.out _ K6).1.all; obtain ⟨j2,j3,_,_⟩:=(HV.out _ K6).2.1.all; have z4:=(HV.out _ K6).2.2.1; have e0:=z4.c0; have e1:=z4.c1; have e2:=z4.c2; have e3:=z4.c3; have y0:=z4.fz 0; have y1:=z4.fz 1; have y2:=z4.fz 2; have y3:=z4.fz 3))
 have HZ:=hid' (And.intro z4 (HV.out _ K6).2.2.2.1)
 clear q0 q1 q4 q5 d0 d1 d2 d3 g0 g1 g2 g3 j0 j1 j2 j3 hk4 hk5 hk6 K4 K5 K6 HV z4
 go_wp2
 refine bodyPost_ret (v:=.agg #[.bool s5,.slice a5 k5 c5,.bool false,.slice a6 k6 c6]) (by simp [results,Tryz.results53,go_sem,e0,e1,e2,e3]) rfl ⟨F.Kept.put4 HZ.out.2 HP.out _ _ _ _,_,m * pw x.toNat,1,rfl,⟨s5,a5,k5,c5,false,a6,k6,c6,rfl,F.nset4 H6.out.2.2 HZ.out.1,F.nset4 H6.out.1 HZ.out.1,by have h1:=H5.out.2; have h2:=HL.out; have h3:=H4.out.2; omega,by have h1:=H6.out.2.1; omega⟩,scl_whole (by omega)⟩
theorem of_any (m x:Int) (h1:-9223372036854775808≤m) (h2:m≤9223372036854775807) (h3:-50≤x) (h4:x≤50) (w:World) :
  Calls Tryz.prog 53 #[.agg #[.int .i64 m,.int .i64 x]] w fun e w' => Kept w w'∧FE w' e m x:=by
 by_cases h:x < 0
 ·
  exact of_neg m x h1 h2 h h3 w
 ·
  exact of_pos m x h1 h2 h h4 w
end Q
end Go.Proofs.YtfddbkhfokeioaaGreatDoor

namespace Go.Proofs.YtfddbkhfokeioaaGreatDoor
open Go.RowKit
namespace Q
def FQ (w:World) (e:Ending) (X Y:Int) (k k':Nat):Prop:=∃ v,e = .returned v∧F.FIs w v X Y k k'
end Q
end Go.Proofs.YtfddbkhfokeioaaGreatDoor

namespace Go.Proofs.YtfddbkhfokeioaaGreatDoor
open Go.RowKit
namespace V
open Q (okN okN_bd Scl)
def lev (p:Int × Int):Int:=F.near (U p.1 p.2) 1000000000
def seg (p q:Int × Int) (g L:Int):Int:=F.near (U p.1 p.2 * (L - g) + U q.1 q.2 * g) (L.toNat * 1000000000)
def sayP (p q:Int × Int) (d r b f P t:Int):Int :=
 if t < d then lev p else
  if (t - d) % P < r then seg p q ((t - d) % P) r else if (t - d) % P < r + b then lev q else if (t - d) % P < r + b + f then seg q p ((t - d) % P - (r + b)) f else lev p
def sayQ (vs:List (Int × Int)) (ss:List Int) (t:Int):Int :=
 if fa ss t = ss.length then lev (vs.getD (vs.length - 1) (0,0)) else if fa ss t = 0 then lev (vs.getD 0 (0,0)) else
  seg (vs.getD (fa ss t - 1) (0,0)) (vs.getD (fa ss t) (0,0)) (t - ss.getD (fa ss t - 1) 0) (ss.getD (fa ss t) 0 - ss.getD (fa ss t - 1) 0)
def sayW (k:Int) (vs:List (Int × Int)) (ss:List Int) (t:Int):Int :=
 if k = 2 then sayP (vs.getD 0 (0,0)) (vs.getD 1 (0,0)) (ss.getD 0 0) (ss.getD 1 0) (ss.getD 2 0) (ss.getD 3 0) (ss.getD 4 0) t else if k = 3 then sayQ vs ss t else lev (vs.getD (t % vs.length).toNat (0,0))
def corP (d r b f P t:Int):Int :=
 if t < d then d else t - (t - d) % P + (if (t - d) % P < r then r else if (t - d) % P < r + b then r + b else if (t - d) % P < r + b + f then r + b + f else P)
def corW (k:Int) (ss:List Int) (t:Int):Option Int :=
 if k = 2 then some (corP (ss.getD 0 0) (ss.getD 1 0) (ss.getD 2 0) (ss.getD 3 0) (ss.getD 4 0) t) else if k = 3 then (if fa ss t = ss.length then none else some (ss.getD (fa ss t) 0)) else if k = 4 then some (t + 1) else none
def nxtW (k:Int) (ss:List Int) (t:Int):Int × Bool :=
 match corW k ss t with
 | none => (0,false)
 | some c => if c≤1000000000 then (c,true) else (0,false)
def atW (k:Int) (vs:List (Int × Int)) (ss:List Int) (t:Int):Int × Int :=
 if okW k vs ss = true then (if okS t = true then (F.gridV (sayW k vs ss t),F.gridE (sayW k vs ss t)) else (0,4)) else (0,40)
def nextW (k:Int) (vs:List (Int × Int)) (ss:List Int) (t:Int):Int × Bool :=
 if okW k vs ss = true∧okS t = true then nxtW k ss t else (0,false)
end V
end Go.Proofs.YtfddbkhfokeioaaGreatDoor

namespace Go.Proofs.YtfddbkhfokeioaaGreatDoor
open Go.RowKit
namespace V
open Q (okN okN_bd Scl hid')
theorem nis_short {w:World} {s:Bool} {ao:Option Addr} {k c:Nat} {z:Int} (h:D.NIs w s (.slice ao k c) z) (hz:z.natAbs≤10 ^ 100):k≤100:=by
 obtain ⟨l,h1,h2,rfl⟩:=h
 have e:=h1.len
 subst e
 rw [D.natAbs_int] at hz
 apply Classical.byContradiction
 intro hk
 have h3:=D.val_ge h2.tr (fun e => by rw [e] at hk; simp at hk)
 have h4:65536 ^ 100≤65536 ^ (l.length - 1):=Nat.pow_le_pow_right (by decide) (by omega)
 have h5:(10:Nat) ^ 100 < 65536 ^ 100:=by decide
 exact absurd (Nat.le_trans h4 (Nat.le_trans h3 hz)) (by omega)
def FT (w:World) (v:Value) (A:Int) (S:Nat):Prop:=∃ N D:Int,F.FIs w v N D 100 100∧0 < D∧Nat.gcd N.natAbs D.natAbs = 1∧N * (S:Int) = A * D
theorem FT.kept {w w':World} {v:Value} {A:Int} {S:Nat} (h:FT w v A S) (k:Kept w w'):FT w' v A S:=by
 obtain ⟨N,D,h1,h2⟩:=h
 exact ⟨N,D,h1.kept k,h2⟩
section
variable {v v':Value} {A A':Int} {S T:Nat} (w:World)
theorem ft_num (m x:Int) (h:okN m x = true):Calls Tryz.prog 53 #[.agg #[.int .i64 m,.int .i64 x]] w fun e w' => Kept w w'∧∃ u,e = .returned u∧FT w' u (U m x) (10 ^ 18):=by
 have hb:=okN_bd h
 refine (Q.of_any m x (by omega) (by omega) (by omega) (by omega) w).mono ?_
 rintro e w' ⟨hk,u,N,D,rfl,⟨s,ao,n,c,t,ap,n',c',rfl,h1,h2,h3,h4⟩,hs⟩
 have e1:=scl_u hb.2.2.1 hs
 have hbd:=low_bd hs.2.1 (by decide) e1
 have hu:=u_bd h
 have h36:(10:Nat) ^ 36≤10 ^ 100:=by decide
 have h18:(10:Nat) ^ 18≤10 ^ 100:=by decide
 exact ⟨hk,_,rfl,N,D,⟨s,ao,n,c,t,ap,n',c',rfl,h1,h2,nis_short h1 (by omega),nis_short h2 (by rw [Int.natAbs_natCast]; omega)⟩,by have:=hs.1; omega,by rw [Int.natAbs_natCast]; exact hs.2.1,e1⟩
end
end V
end Go.Proofs.YtfddbkhfokeioaaGreatDoor
