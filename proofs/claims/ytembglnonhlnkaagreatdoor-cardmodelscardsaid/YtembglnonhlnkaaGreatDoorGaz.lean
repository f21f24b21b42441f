/- num.Grid. Fractions told by any numerator and denominator: near of them; numbers in units of ten to the power -18. num.Value, num.Cmp. Calls of rat told by any numerator and denominator. shuntref03.power. shuntref03.Of. shuntref02.Of, shuntref03.Billion. What a wave says, told by its kind, its values and its steps; its corners. Calls of shuntref02 told by any numerator and denominator. shuntref03: Value, Grid, Cmp. law03's awake. shuntref03.isDigit, shuntref03.tail. What the document's Parse reads, position by position. shuntref03.Parse: its variables; of no byte and of too many. -/
import Derived.Test.YtembglnonhlnkaaGreatDoorGay
import Derived.Test.YtembglnonhlnkaaGreatDoorGal
import Derived.Test.YtembglnonhlnkaaGreatDoorGas
import Derived.Test.YtembglnonhlnkaaGreatDoorRwhole
import Derived.Test.YtembglnonhlnkaaGreatDoorGaj
import Derived.Test.YtembglnonhlnkaaGreatDoorRset2
import Derived.Test.YtembglnonhlnkaaGreatDoorGao
import Derived.Test.YtembglnonhlnkaaGreatDoorGax
import Derived.Test.YtembglnonhlnkaaGreatDoorGai
import Derived.Test.YtembglnonhlnkaaGreatDoorGap
import Derived.Test.YtembglnonhlnkaaGreatDoorGaw
import Derived.Test.YtembglnonhlnkaaGreatDoorGav
namespace Go.Proofs.YtembglnonhlnkaaGreatDoor
open Go.RowKit
namespace Q
theorem okN_bd {m x:Int} (h:okN m x = true):-999999999≤m∧m≤999999999∧-18≤x∧x≤9:=by
 rcases okN_iff.1 h with ⟨rfl,rfl⟩ | ⟨_,h1,h2,_,h4,h5⟩
 ·
  decide
 ·
  exact ⟨h1,h2,h4,h5⟩
def Scl (m x N:Int) (D:Nat):Prop:=0 < D∧Nat.Coprime N.natAbs D∧N * (10 ^ (-x).toNat:Nat) = m * (10 ^ x.toNat:Nat) * D
def GridIs (e:Ending) (m x:Int):Prop :=
 (okN m x = false∧e = .returned (.tuple #[.int .i64 0,.int .i64 30])) ∨ (okN m x = true∧∃ N D,Scl m (x + 9) N D∧e = .returned (.tuple #[.int .i64 (F.gridV (F.near N D)),.int .i64 (F.gridE (F.near N D))]))
end Q
end Go.Proofs.YtembglnonhlnkaaGreatDoor

namespace Go.Proofs.YtembglnonhlnkaaGreatDoor
open Go.RowKit
namespace V
open Q (okN okN_bd Scl)
def U (m x:Int):Int:=m * ((10 ^ (x + 18).toNat:Nat):Int)
theorem scl_u {m x N:Int} {D:Nat} (hx:-18≤x) (h:Scl m x N D):N * ((10 ^ 18:Nat):Int) = U m x * D:=by
 obtain ⟨_,_,e⟩:=h
 unfold U
 by_cases h0:0≤x
 ·
  have e1:(-x).toNat = 0:=by omega
  have e2:(x + 18).toNat = x.toNat + 18:=by omega
  rw [e1] at e
  rw [e2,Nat.pow_add,Int.natCast_mul,← Int.mul_assoc,Int.mul_right_comm (m * _),← e]
  simp
 ·
  have e1:x.toNat = 0:=by omega
  have e2:10 ^ 18 = 10 ^ (-x).toNat * 10 ^ (x + 18).toNat:=by rw [← Nat.pow_add]; congr 1; omega
  rw [e1] at e
  rw [e2,Int.natCast_mul,← Int.mul_assoc,e]
  simp only [Nat.pow_zero,Int.natCast_one,Int.mul_one]
  rw [Int.mul_right_comm]
theorem u_bd {m x:Int} (h:okN m x = true):(U m x).natAbs≤10 ^ 36:=by
 obtain ⟨h1,h2,h3,h4⟩:=okN_bd h
 unfold U
 rw [Int.natAbs_mul,Int.natAbs_natCast]
 have e1:m.natAbs≤10 ^ 9:=by omega
 have e2:10 ^ (x + 18).toNat≤10 ^ 27:=Nat.pow_le_pow_right (by decide) (by omega)
 calc m.natAbs * 10 ^ (x + 18).toNat≤10 ^ 9 * 10 ^ 27:=Nat.mul_le_mul e1 e2
  _ = 10 ^ 36:=by decide
theorem low_bd {N A:Int} {D S:Nat} (hc:Nat.Coprime N.natAbs D) (hS:0 < S) (h:N * (S:Int) = A * D):N.natAbs≤A.natAbs∧D≤S:=by
 have e:=congrArg Int.natAbs h
 rw [Int.natAbs_mul,Int.natAbs_mul,Int.natAbs_natCast,Int.natAbs_natCast] at e
 constructor
 ·
  have hd:N.natAbs ∣ A.natAbs:=hc.dvd_of_dvd_mul_right (by rw [← e]; exact Nat.dvd_mul_right _ _)
  rcases Nat.eq_zero_or_pos A.natAbs with h0 | h0
  ·
   rw [h0,Nat.zero_mul] at e
   rcases Nat.mul_eq_zero.1 e with h1 | h1
   ·
    omega
   ·
    omega
  ·
   exact Nat.le_of_dvd h0 hd
 ·
  have hd:D ∣ S:=hc.symm.dvd_of_dvd_mul_left (by rw [e]; exact Nat.dvd_mul_left _ _)
  exact Nat.le_of_dvd hS hd
end V
end Go.Proofs.YtembglnonhlnkaaGreatDoor

namespace Go.Proofs.YtembglnonhlnkaaGreatDoor
open Go.RowKit
namespace Q
def ValIs (B:Nat) (w':World) (e:Ending) (m x:Int):Prop :=
 (okN m x = false∧e = .returned (.tuple #[.agg #[.bool false,.slice none 0 0,.bool false,.slice none 0 0],.int .i64 30])) ∨ (okN m x = true∧∃ v N D,e = .returned (.tuple #[v,.int .i64 0])∧RQ B w' v N D∧Scl m x N D)
def CmpIs (e:Ending) (m x m' x':Int):Prop :=
 (¬ (okN m x = true∧okN m' x' = true)∧e = .returned (.tuple #[.int .i64 0,.int .i64 30])) ∨ ((okN m x = true∧okN m' x' = true)∧∃ (N:Int) (D:Nat) (N':Int) (D':Nat),Scl m x N D∧Scl m' x' N' D'∧e = .returned (.tuple #[.int .i64 (isgn (N * D') (N' * D)),.int .i64 0]))
set_option maxRecDepth 100000 in
set_option maxHeartbeats 8000000 in
theorem cmp_any (m x m' x':Int) (w:World):Calls Tryz.prog 114 #[.agg #[.int .i64 m,.int .i64 x],.agg #[.int .i64 m',.int .i64 x']] w fun e w' => Kept w w'∧CmpIs e m x m' x':=by
 go_enter Tryz.func114,Tryz.ntmps114
 go_upto_region 1 with fail
 have hK:=((Kept.refl w).alloc (.cells #[.int .i64 m,.int .i64 x] 26)).alloc (.cells #[.int .i64 m',.int .i64 x'] 26)
 have hR2:=(Row2.alloc 26 w (.int .i64 m) (.int .i64 x)).kept ((Kept.refl _).alloc (.cells #[.int .i64 m',.int .i64 x'] 26))
 have hR3:=Row2.alloc 26 (w.alloc (.cells #[.int .i64 m,.int .i64 x] 26)) (.int .i64 m') (.int .i64 x')
 rw [World.size_alloc] at hR3
 generalize (w.alloc (.cells #[.int .i64 m,.int .i64 x] 26)).alloc (.cells #[.int .i64 m',.int .i64 x'] 26) = W at hK hR2 hR3 ⊢
 obtain ⟨p3,hp3⟩:∃ p,p = w.heap.size + 1:=⟨_,rfl⟩
 rw [← hp3] at hR3 ⊢
 obtain ⟨p2,hp2⟩:∃ p,p = w.heap.size:=⟨_,rfl⟩
 rw [← hp2] at hR2 ⊢
 have HK:=hid' hK
 have HR2:=hid' hR2
 have HR3:=hid' hR3
 obtain ⟨q0,q1,q2,q3⟩:=hR2.all
 clear hp2 hp3 hK hR2 hR3
 go_wp2_with fail
 refine (Valid_any m x _).mono ?_
 rintro e w1 ⟨hk1,rfl⟩
 have HK1:=hid' hk1
 clear hk1 q0 q1 q2 q3
 by_cases ho:okN m x = true
 ·
  have hb:=okN_bd ho
  rw [ho]
  have HO:=hid' ho
  clear ho
  obtain ⟨q0,q1,q2,q3⟩:=(HR3.out.kept HK1.out).all
  go_wp2_with fail
  refine (Valid_any m' x' _).mono ?_
  rintro e w2 ⟨hk2,rfl⟩
  have HK2:=hid' (HK1.out.trans hk2)
  clear hk2 q0 q1 q2 q3
  by_cases ho':okN m' x' = true
  ·
   have hb':=okN_bd ho'
   rw [ho']
   have HO':=hid' ho'
   clear ho'
   go_upto_region 3 with fail
   obtain ⟨q0,q1,q2,q3⟩:=(HR2.out.kept HK2.out).all
   obtain ⟨r0,r1,r2,r3⟩:=(HR3.out.kept HK2.out).all
   go_region_held3 (fun w' => w'.cell? ⟨p2,0,none⟩ = some (.int .i64 m)∧w'.cell? ⟨p2,1,none⟩ = some (.int .i64 x)∧w'.cell? ⟨p3,0,none⟩ = some (.int .i64 m')∧w'.cell? ⟨p3,1,none⟩ = some (.int .i64 x')) (go_keep) (first
    | (go_at_call_of 131 (Value.int .i64 m); refine (scaled_any m x (by omega) (by omega) (by omega) (by omega) _).mono ?_; rintro e w3 ⟨hk3,v3,N3,D3,rfl,hq3,he3⟩; have HS3:Hid (Scl m x N3 D3):=⟨hq3.low.1,hq3.low.2,he3⟩; obtain ⟨s,ao,ap,k,c,k',c',l,l',rfl,n1,n2,r,rfl,rfl⟩:=hq3; have H3:=hid' (And.intro n1.sl (And.intro n2.sl r)); have K3:=HK2.out.trans ((Kept.refl w2).drew.trans hk3); have a0:=(HR2.out.kept K3).c0; have a1:=(HR2.out.kept K3).c1; have a2:=(HR3.out.kept K3).c0; have a3:=(HR3.out.kept K3).c1; clear n1 n2 r he3)
    | (go_at_call_of 131 (Value.int .i64 m'); refine (scaled_any m' x' (by omega) (by omega) (by omega) (by omega) _).mono ?_; rintro e w4 ⟨hk4,v4,N4,D4,rfl,hq4,he4⟩; have HS4:Hid (Scl m' x' N4 D4):=⟨hq4.low.1,hq4.low.2,he4⟩; obtain ⟨s4,ao4,ap4,k4,c4,k4',c4',l4,l4',rfl,n1,n2,r,rfl,rfl⟩:=hq4; have H4:=hid' (And.intro n1.sl (And.intro n2.sl (And.intro r hk4))); have K4:=K3.trans hk4; have b0:=(HR2.out.kept K4).c0; have b1:=(HR2.out.kept K4).c1; have b2:=(HR3.out.kept K4).c0; have b3:=(HR3.out.kept K4).c1; clear n1 n2 r he4)
    | (go_at_call 130; refine (F.Cmp_ok s false s4 false ao ap ao4 ap4 k c k' c' k4 c4 k4' c4' l l' l4 l4' _ (H3.out.1.kept H4.out.2.2.2) (H3.out.2.1.kept H4.out.2.2.2) H4.out.1 H4.out.2.1 H3.out.2.2 H4.out.2.2.1).mono ?_; rintro e w5 ⟨rfl,hk5⟩; have K5:=K4.trans hk5; have d0:=(HR2.out.kept K5).c0; have d1:=(HR2.out.kept K5).c1; have d2:=(HR3.out.kept K5).c0; have d3:=(HR3.out.kept K5).c1))
   have HK5:=hid' (HK.out.trans K5)
   clear K3 K4 K5 hk3 hk4 hk5 q0 q1 q2 q3 r0 r1 r2 r3 a0 a1 a2 a3 b0 b1 b2 b3 d0 d1 d2 d3
   generalize hgi:isgn (M.int s l * M.val l4') (M.int s4 l4 * M.val l') = gi
   have HGI:=hid' hgi
   clear hgi
   go_wp2
   go_ret2
   exact ⟨HK5.out,.inr ⟨⟨HO.out,HO'.out⟩,_,_,_,_,HS3.out,HS4.out,by rw [HGI.out]; rfl⟩⟩
  ·
   have ho':okN m' x' = false:=by simpa using ho'
   rw [ho']
   have HO':=hid' ho'
   clear ho'
   go_wp2
   go_ret2
   exact ⟨HK.out.trans HK2.out,.inl ⟨fun hh => absurd (HO'.out.symm.trans hh.2) (by decide),rfl⟩⟩
 ·
  have ho:okN m x = false:=by simpa using ho
  rw [ho]
  have HO:=hid' ho
  clear ho
  go_wp2
  go_ret2
  exact ⟨HK.out.trans HK1.out,.inl ⟨fun hh => absurd (HO.out.symm.trans hh.1) (by decide),rfl⟩⟩
end Q
end Go.Proofs.YtembglnonhlnkaaGreatDoor

namespace Go.Proofs.YtembglnonhlnkaaGreatDoor
open Go.RowKit
namespace V
open Q (okN okN_bd Scl RQ hid')
def RT (B:Nat) (w:World) (v:Value) (A:Int) (S:Nat):Prop:=∃ N D,RQ B w v N D∧N * (S:Int) = A * D
theorem RT.kept {B:Nat} {w w':World} {v:Value} {A:Int} {S:Nat} (h:RT B w v A S) (k:Kept w w'):RT B w' v A S:=by
 obtain ⟨N,D,h1,h2⟩:=h
 exact ⟨N,D,h1.kept k,h2⟩
theorem RT.mono {B B':Nat} {w:World} {v:Value} {A:Int} {S:Nat} (h:RT B w v A S) (k:B'≤B):RT B' w v A S:=by
 obtain ⟨N,D,h1,h2⟩:=h
 exact ⟨N,D,h1.mono k,h2⟩
theorem RT.shape {B:Nat} {w:World} {v:Value} {A:Int} {S:Nat} (h:RT B w v A S):∃ (s:Bool) (ao ap:Option Addr) (k c k' c':Nat),v = .agg #[.bool s,.slice ao k c,.bool false,.slice ap k' c']:=by
 obtain ⟨N,D,⟨s,ao,ap,k,c,k',c',l,l',rfl,_⟩,_⟩:=h
 exact ⟨_,_,_,_,_,_,_,rfl⟩
theorem hW:(10:Nat) ^ 200 < M.W72:=by unfold M.W72; decide
end V
end Go.Proofs.YtembglnonhlnkaaGreatDoor

namespace Go.Proofs.YtembglnonhlnkaaGreatDoor
open Go.RowKit
namespace Q
structure P2 (w wr:World) (p2 p3:Nat) (sg:Bool) (ao:Option Addr) (k cap:Nat) (z:Int):Prop where
 kp:Kept w wr
 r2:Row2 87 wr p2 (.bool false) (.slice none 0 0)
 r3:Row2 87 wr p3 (.bool sg) (.slice ao k cap)
 na:D.NIs wr sg (.slice ao k cap) z
 p2w:w.heap.size≤p2
 p3w:w.heap.size≤p3
 ne:¬ p2 = p3
theorem P2.kept {w wr wr':World} {p2 p3:Nat} {sg:Bool} {ao:Option Addr} {k cap:Nat} {z:Int} (h:P2 w wr p2 p3 sg ao k cap z) (q:Kept wr wr'):P2 w wr' p2 p3 sg ao k cap z :=
 ⟨h.kp.trans q,h.r2.kept q,h.r3.kept q,h.na.kept q,h.p2w,h.p3w,h.ne⟩
theorem P2.put {w wr:World} {p2 p3:Nat} {sg:Bool} {ao:Option Addr} {k cap:Nat} {z:Int} (h:P2 w wr p2 p3 sg ao k cap z) {sg':Bool} {ao':Option Addr} {k' cap':Nat} {z':Int} (hn:D.NIs wr sg' (.slice ao' k' cap') z') :
  P2 w ((wr.setCell ⟨p3,0,none⟩ (.bool sg')).setCell ⟨p3,1,none⟩ (.slice ao' k' cap')) p2 p3 sg' ao' k' cap' z' :=
 ⟨Kept.put2 h.kp h.p3w _ _,h.r2.far h.ne _ _,h.r3.set2 _ _,hn.box2 h.r3.c0 h.r3.c1 _ _,h.p2w,h.p3w,h.ne⟩
def NE (w:World) (e:Ending) (z:Int) (kk:Nat):Prop:=∃ s ao k cap,e = .returned (.agg #[.bool s,.slice ao k cap])∧D.NIs w s (.slice ao k cap) z∧k≤kk
def pw (n:Nat):Int:=((10 ^ n:Nat):Int)
theorem pw_succ (n:Nat):pw (n + 1) = pw n * 10:=by unfold pw; rw [Nat.pow_succ,Int.natCast_mul]; rfl
theorem pw_pos (n:Nat):0 < pw n:=by unfold pw; have:=Nat.pow_pos (n:=n) (show 0 < 10 by decide); omega
set_option maxRecDepth 100000 in
set_option maxHeartbeats 8000000 in
theorem rpower_any (n:Nat) (hn:n≤100) (w:World) :
  Calls Tryz.prog 92 #[.int .i64 (n:Int)] w fun e w' => Kept w w'∧NE w' e (pw n) (n + 1):=by
 go_enter Tryz.func92,Tryz.ntmps92
 go_wp2_with fail
 refine (D.small_num 1 _ (by omega) (by omega)).mono ?_
 rintro e w1 ⟨hk1,ao1,k1,c1,rfl,n1,l1⟩
 go_wp2_with fail
 have hA:Kept w1 (w1.alloc (.cells #[.bool false,.slice ao1 k1 c1] 87)):=(Kept.refl w1).alloc _
 have hlt:w.heap.size < w1.heap.size:=by have:=hk1.size; simp at this; omega
 have hP:P2 w (w1.alloc (.cells #[.bool false,.slice ao1 k1 c1] 87)) w.heap.size w1.heap.size false ao1 k1 c1 1 :=
  ⟨(((Kept.refl w).alloc _).trans hk1).trans hA,((Row2.alloc 87 w (.bool false) (.slice none 0 0)).kept hk1).kept hA,Row2.alloc 87 w1 (.bool false) (.slice ao1 k1 c1),n1.kept hA,Nat.le_refl _,by omega,by omega⟩
 generalize w1.alloc (.cells #[.bool false,.slice ao1 k1 c1] 87) = W at hP hA ⊢
 obtain ⟨p3,hp3⟩:∃ p,p = w1.heap.size:=⟨_,rfl⟩
 rw [← hp3] at hP ⊢
 obtain ⟨p2,hp2⟩:∃ p,p = w.heap.size:=⟨_,rfl⟩
 rw [← hp2] at hP ⊢
 have HP:=hid' hP
 clear hp2 hp3 hP hA hlt hk1 n1
 go_loopw [4] (fun vi wr => ∃ (j:Nat) (sg:Bool) (ao:Option Addr) (k cap:Nat),j≤n∧vi = .int .i64 (j:Int)∧Hid (P2 w wr p2 p3 sg ao k cap (pw j)∧k≤j + 1)) (fun vi _ => n - (intOf vi).toNat)
 case atStart => exact ⟨0,_,_,_,_,Nat.zero_le _,rfl,HP.out,by omega⟩
 case round =>
  obtain ⟨j,sg,ao,k,cap,hj,rfl,HI⟩:=hrel
  obtain ⟨q0,q1,q2,q3⟩:=HI.out.1.r3.all
  by_cases hlt:j < n
  ·
   have hji:(j:Int) < (n:Int):=by omega
   go_wp2_with fail
   go_region_with (first
    | (go_at_call 68; refine (D.small_num 10 _ (by omega) (by omega)).mono ?_; rintro e wC ⟨hkC,aoC,kC,cC,rfl,nC,lC⟩; have HC:=hid' (And.intro nC lC); have KC:=(Kept.refl wr).drew.trans hkC; obtain ⟨g0,g1,g2,g3⟩:=(HI.out.1.kept KC).r3.all; clear nC lC hkC)
    | (go_at_call 71; refine (D.Times_any sg false ao aoC k kC cap cC _ _ _ (HI.out.1.na.kept KC) HC.out.1 (by have:=HI.out.2; omega) (by have:=HC.out.2; omega)).mono ?_; rintro e wE ⟨hkE,sE,aoE,kE,cE,rfl,nE,lE⟩; have HE:=hid' (And.intro nE lE); have KE:=KC.trans hkE; obtain ⟨j0,j1,j2,j3⟩:=(HI.out.1.kept KE).r3.all; clear nE lE hkE))
   all_goals
    have HWE:=hid' (HI.out.1.kept KE)
    clear KC KE
    go_wp2_with fail
    go_roundw
    case rel => exact ⟨j + 1,sE,aoE,kE,cE,by omega,by go_num,HWE.out.put (by rw [pw_succ]; exact HE.out.1),by have h1:=HE.out.2; have h2:=HI.out.2; have h3:=HC.out.2; omega⟩
    case measure => show n - ((j:Int) + 1).toNat < n - (j:Int).toNat; omega
  ·
   obtain rfl:j = n:=by omega
   have hji:¬ (j:Int) < (j:Int):=by omega
   obtain ⟨d0,d1,d2,d3⟩:=HI.out.1.r2.all
   go_wp2_with fail
   refine bodyPost_ret (v:=.agg #[.bool sg,.slice ao k cap]) (by simp [results,Tryz.results92,go_sem,d0,d1]) rfl ⟨Kept.put2 HI.out.1.kp HI.out.1.p2w _ _,sg,ao,k,cap,rfl,HI.out.1.na.box2 HI.out.1.r2.c0 HI.out.1.r2.c1 _ _,HI.out.2⟩
end Q
end Go.Proofs.YtembglnonhlnkaaGreatDoor

namespace Go.Proofs.YtembglnonhlnkaaGreatDoor
open Go.RowKit
namespace Q
def FE (w:World) (e:Ending) (m x:Int):Prop:=∃ (v:Value) (N:Int) (D:Nat),e = .returned v∧F.FIs w v N (D:Int) 110 110∧Scl m x N D
theorem rpower_int (z:Int) (h0:0≤z) (h1:z≤100) (w:World):Calls Tryz.prog 92 #[.int .i64 z] w fun e w' => Kept w w'∧∃ s ao k cap,e = .returned (.agg #[.bool s,.slice ao k cap])∧D.NIs w' s (.slice ao k cap) (pw z.toNat)∧k≤101:=by
 obtain ⟨n,rfl⟩:=Int.eq_ofNat_of_zero_le h0
 refine (rpower_any n (by omega) w).mono ?_
 rintro e w' ⟨hk,s,ao,k,cap,rfl,hn,hl⟩
 exact ⟨hk,s,ao,k,cap,rfl,hn,by omega⟩
theorem scl_low {m x N D:Int} (hx:x < 0) (h:F.Low m (pw (-x).toNat) N D):Scl m x N D.toNat:=by
 refine ⟨by have:=h.pos; omega,?_,?_⟩
 ·
  show Nat.gcd _ _ = 1
  rw [show D.toNat = D.natAbs by have:=h.pos; omega]
  exact h.low
 ·
  rw [show x.toNat = 0 by omega,show ((D.toNat:Nat):Int) = D by have:=h.pos; omega]
  have:=h.eq
  unfold pw at this
  rw [this]
  simp
theorem scl_whole {m x:Int} (hx:0≤x):Scl m x (m * pw x.toNat) 1:=by
 refine ⟨by decide,by show Nat.gcd _ _ = 1; simp,?_⟩
 rw [show (-x).toNat = 0 by omega]
 unfold pw
 simp
set_option maxRecDepth 100000 in
set_option maxHeartbeats 8000000 in
theorem of_neg (m x:Int) (h1:-9223372036854775808≤m) (h2:m≤9223372036854775807) (hx:x < 0) (hx1:-50≤x) (w:World) :
  Calls Tryz.prog 53 #[.agg #[.int .i64 m,.int .i64 x]] w fun e w' => Kept w w'∧FE w' e m x:=by
 have HM:=hid' (And.intro h1 h2)
 clear h1 h2
 have hwr:IntKind.i64.wrap (-x) = -x:=wrap_i64' (by omega) (by omega)
 go_enter Tryz.func53,Tryz.ntmps53
 go_upto_region 1 with fail
 have r1:=(Row2.alloc 26 w (.int .i64 m) (.int .i64 x)).kept ((Kept.refl _).alloc (.cells #[.bool false,.slice none 0 0,.bool false,.slice none 0 0] 89))
 have r2:=F.FRow.alloc (w.alloc (.cells #[.int .i64 m,.int .i64 x] 26)) (.bool false) (.slice none 0 0) (.bool false) (.slice none 0 0)
 have hK:=((Kept.refl w).alloc (.cells #[.int .i64 m,.int .i64 x] 26)).alloc (.cells #[.bool false,.slice none 0 0,.bool false,.slice none 0 0] 89)
 simp only [World.size_alloc] at r2
 generalize (w.alloc (.cells #[.int .i64 m,.int .i64 x] 26)).alloc (.cells #[.bool false,.slice none 0 0,.bool false,.slice none 0 0] 89) = W at r1 r2 hK ⊢
 obtain ⟨p2,hp2⟩:∃ p,p = w.heap.size + 1:=⟨_,rfl⟩
 rw [← hp2] at r2 ⊢
 obtain ⟨p1,hp1⟩:∃ p,p = w.heap.size:=⟨_,rfl⟩
 rw [← hp1] at r1 ⊢
 have HP:Hid (w.heap.size≤p2):=by show _≤_; omega
 have n21:¬ p2 = p1:=by omega
 clear hp1 hp2
 have HR:=hid' (And.intro r1 (And.intro r2 hK))
 obtain ⟨q0,q1,q2,q3⟩:=r1.all
 clear r1 r2 hK
 go_wp2_with fail
 refine (D.wide_any m _ HM.out.1 HM.out.2).mono ?_
 rintro e w3 ⟨hk3,s3,a3,k3,c3,rfl,n3,l3⟩
 have HL:=hid' l3
 have R1:=HR.out.1.kept hk3
 have R2:=HR.out.2.1.kept hk3
 have RK:=HR.out.2.2.trans hk3
 have l1:=R1.lt
 have l2:=R2.lt
 clear q0 q1 q2 q3 l3 hk3
 go_upto_region 2 with fail
 have hA:Kept w3 (w3.alloc (.cells #[.bool s3,.slice a3 k3 c3] 87)):=(Kept.refl w3).alloc _
 have r3:=Row2.alloc 87 w3 (.bool s3) (.slice a3 k3 c3)
 have r1:=R1.kept hA
 have r2:=R2.kept hA
 have hK:=RK.trans hA
 have n3':=n3.kept hA
 clear R1 R2 RK n3 HR
 generalize w3.alloc (.cells #[.bool s3,.slice a3 k3 c3] 87) = V at r1 r2 r3 hK n3' ⊢
 obtain ⟨p3,hp3⟩:∃ p,p = w3.heap.size:=⟨_,rfl⟩
 rw [← hp3] at r3 ⊢
 have n23:¬ p2 = p3:=by omega
 have n13:¬ p1 = p3:=by omega
 have HV:Hid (∀ U,Kept V U→Row2 26 U p1 (.int .i64 m) (.int .i64 x)∧Row2 87 U p3 (.bool s3) (.slice a3 k3 c3)∧F.FRow U p2 (.bool false) (.slice none 0 0) (.bool false) (.slice none 0 0)∧Kept w U∧D.NIs U s3 (.slice a3 k3 c3) m∧True):=fun U hU => ⟨r1.kept hU,r3.kept hU,r2.kept hU,hK.trans hU,n3'.kept hU,trivial⟩
 obtain ⟨q0,q1,q2,q3⟩:=r1.all
 obtain ⟨q4,q5,q6,q7⟩:=r3.all
 clear hp3 r1 r2 r3 hK n3' l1 l2 hA q2 q3 q6 q7
 go_upto_region 3 with fail
 go_region_held3 (fun w' => w'.cell? ⟨p1,0,none⟩ = some (.int .i64 m)∧w'.cell? ⟨p1,1,none⟩ = some (.int .i64 x)∧w'.cell? ⟨p3,0,none⟩ = some (.bool s3)∧w'.cell? ⟨p3,1,none⟩ = some (.slice a3 k3 c3)) (go_keep) (first
  | (go_at_call 92; refine (rpower_int (-x) (by omega) (by omega) _).mono ?_; rintro e w4 ⟨hk4,s4,a4,k4,c4,rfl,n4,l4⟩; have K4:=(Kept.refl V).drew.trans hk4; have H4:=hid' (And.intro n4 l4); clear n4 l4; obtain ⟨d0,d1,_,_⟩:=(HV.out _ K4).1.all; obtain ⟨d2,d3,_,_⟩:=(HV.out _ K4).2.1.all)
  | (go_at_call 91; refine (F.Lowest_any s3 s4 a3 a4 k3 c3 k4 c4 m (pw (-x).toNat) _ (HV.out _ K4).2.2.2.2.1 H4.out.1 (by have:=HL.out; omega) (by have:=H4.out.2; omega) (by have:=pw_pos (-x).toNat; omega)).mono ?_; rintro e w5 ⟨hk5,v5,N5,D5,rfl,hF5,hL5⟩; obtain ⟨s5,a5,k5,c5,t5,a6,k6,c6,rfl,n5,n6,l5,l6⟩:=hF5; have K5:=K4.trans hk5; have H5:=hid' (And.intro n5 (And.intro n6 (And.intro l5 (And.intro l6 hL5)))); clear n5 n6 l5 l6 hL5; obtain ⟨g0,g1,_,_⟩:=(HV.out _ K5).1.all; obtain ⟨g2,g3,_,_⟩:=(HV.out _ K5).2.1.all; have z4:=(HV.out _ K5).2.2.1; have e0:=z4.c0; have e1:=z4.c1; have e2:=z4.c2; have e3:=z4.c3; have y0:=z4.fz 0; have y1:=z4.fz 1; have y2:=z4.fz 2; have y3:=z4.fz 3))
 have HZ:=hid' (And.intro z4 (HV.out _ K5).2.2.2.1)
 clear q0 q1 q4 q5 d0 d1 d2 d3 g0 g1 g2 g3 hk4 hk5 K4 K5 HV z4
 go_wp2
 refine bodyPost_ret (v:=.agg #[.bool s5,.slice a5 k5 c5,.bool t5,.slice a6 k6 c6]) (by simp [results,Tryz.results53,go_sem,e0,e1,e2,e3]) rfl ⟨F.Kept.put4 HZ.out.2 HP.out _ _ _ _,_,N5,D5.toNat,rfl,⟨s5,a5,k5,c5,t5,a6,k6,c6,rfl,F.nset4 H5.out.1 HZ.out.1,?_,by have h1:=H5.out.2.2.1; have h2:=HL.out; omega,by have h1:=H5.out.2.2.2.1; have h2:=H4.out.2; omega⟩,scl_low hx H5.out.2.2.2.2⟩
 rw [show ((D5.toNat:Nat):Int) = D5 by have:=H5.out.2.2.2.2.pos; omega]
 exact F.nset4 H5.out.2.1 HZ.out.1
set_option maxRecDepth 100000 in
set_option maxHeartbeats 8000000 in
theorem of_pos (m x:Int) (h1:-9223372036854775808≤m) (h2:m≤9223372036854775807) (hx:¬ x < 0) (hx1:x≤50) (w:World) :
  Calls Tryz.prog 53 #[.agg #[.int .i64 m,.int .i64 x]] w fun e w' => Kept w w'∧FE w' e m x:=by
 have HM:=hid' (And.intro h1 h2)
 clear h1 h2
 go_enter Tryz.func53,Tryz.ntmps53
 go_upto_region 1 with fail
 have r1:=(Row2.alloc 26 w (.int .i64 m) (.int .i64 x)).kept ((Kept.refl _).alloc (.cells #[.bool false,.slice none 0 0,.bool false,.slice none 0 0] 89))
 have r2:=F.FRow.alloc (w.alloc (.cells #[.int .i64 m,.int .i64 x] 26)) (.bool false) (.slice none 0 0) (.bool false) (.slice none 0 0)
 have hK:=((Kept.refl w).alloc (.cells #[.int .i64 m,.int .i64 x] 26)).alloc (.cells #[.bool false,.slice none 0 0,.bool false,.slice none 0 0] 89)
 simp only [World.size_alloc] at r2
 generalize (w.alloc (.cells #[.int .i64 m,.int .i64 x] 26)).alloc (.cells #[.bool false,.slice none 0 0,.bool false,.slice none 0 0] 89) = W at r1 r2 hK ⊢
 obtain ⟨p2,hp2⟩:∃ p,p = w.heap.size + 1:=⟨_,rfl⟩
 rw [← hp2] at r2 ⊢
 obtain ⟨p1,hp1⟩:∃ p,p = w.heap.size:=⟨_,rfl⟩
 rw [← hp1] at r1 ⊢
 have HP:Hid (w.heap.size≤p2):=by show _≤_; omega
 have n21:¬ p2 = p1:=by omega
 clear hp1 hp2
 have HR:=hid' (And.intro r1 (And.intro r2 hK))
 obtain ⟨q0,q1,q2,q3⟩:=r1.all
 clear r1 r2 hK
 go_wp2_with fail
 refine (D.wide_any m _ HM.out.1 HM.out.2).mono ?_
 rintro e w3 ⟨hk3,s3,a3,k3,c3,rfl,n3,l3⟩
 have HL:=hid' l3
 have R1:=HR.out.1.kept hk3
 have R2:=HR.out.2.1.kept hk3
 have RK:=HR.out.2.2.trans hk3
 have l1:=R1.lt
 have l2:=R2.lt
 clear q0 q1 q2 q3 l3 hk3
 go_upto_region 2 with fail
 have hA:Kept w3 (w3.alloc (.cells #[.bool s3,.slice a3 k3 c3] 87)):=(Kept.refl w3).alloc _
 have r3:=Row2.alloc 87 w3 (.bool s3) (.slice a3 k3 c3)
 have r1:=R1.kept hA
 have r2:=R2.kept hA
 have hK:=RK.trans hA
 have n3':=n3.kept hA
 clear R1 R2 RK n3 HR
 generalize w3.alloc (.cells #[.bool s3,.slice a3 k3 c3] 87) = V at r1 r2 r3 hK n3' ⊢
 obtain ⟨p3,hp3⟩:∃ p,p = w3.heap.size:=⟨_,rfl⟩
 rw [← hp3] at r3 ⊢
 have n23:¬ p2 = p3:=by omega
 have n13:¬ p1 = p3:=by omega
 have HV:Hid (∀ U,Kept V U→Row2 26 U p1 (.int .i64 m) (.int .i64 x)∧Row2 87 U p3 (.bool s3) (.slice a3 k3 c3)∧F.FRow U p2 (.bool false) (.slice none 0 0) (.bool false) (.slice none 0 0)∧Kept w U∧D.NIs U s3 (.slice a3 k3 c3) m∧True):=fun U hU => ⟨r1.kept hU,r3.kept hU,r2.kept hU,hK.trans hU,n3'.kept hU,trivial⟩
 obtain ⟨q0,q1,q2,q3⟩:=r1.all
 obtain ⟨q4,q5,q6,q7⟩:=r3.all
 clear hp3 r1 r2 r3 hK n3' l1 l2 hA q2 q3 q6 q7
 go_upto_region 4 with fail
 go_region_held3 (fun w' => w'.cell? ⟨p1,0,none⟩ = some (.int .i64 m)∧w'.cell? ⟨p1,1,none⟩ = some (.int .i64 x)∧w'.cell? ⟨p3,0,none⟩ = some (.bool s3)∧w'.cell? ⟨p3,1,none⟩ = some (.slice a3 k3 c3)) (go_keep) (first
  | (go_at_call 92; refine (rpower_int x (by omega) (by omega) _).mono ?_; rintro e w4 ⟨hk4,s4,a4,k4,c4,rfl,n4,l4⟩; have K4:=(Kept.refl V).drew.trans hk4; have H4:=hid' (And.intro n4 l4); clear n4 l4; obtain ⟨d0,d1,_,_⟩:=(HV.out _ K4).1.all; obtain ⟨d2,d3,_,_⟩:=(HV.out _ K4).2.1.all)
  | (go_at_call 71; refine (D.Times_any s3 s4 a3 a4 k3 k4 c3 c4 m (pw x.toNat) _ (HV.out _ K4).2.2.2.2.1 H4.out.1 (by have:=HL.out; omega) (by have:=H4.out.2; omega)).mono ?_; rintro e w5 ⟨hk5,s5,a5,k5,c5,rfl,n5,l5⟩; have K5:=K4.trans hk5; have H5:=hid' (And.intro n5 l5); clear n5 l5; obtain ⟨g0,g1,_,_⟩:=(HV.out _ K5).1.all; obtain ⟨g2,g3,_,_⟩:=(HV.out _ K5).2.1.all)
  | (go_at_call 68; refine (D.small_num 1 _ (by omega) (by omega)).mono ?_; rintro e w6 ⟨hk6,a6,k6,c6,rfl,n6,l6⟩; have K6:=K5.trans hk6; have H6:=hid' (And.intro n6 (And.intro l6 (H5.out.1.kept hk6))); clear n6 l6; obtain ⟨j0,j1,_,_⟩:=(HV.out _ K6).1.all; obtain ⟨j2,j3,_,_⟩:=(HV.out _ K6).2.1.all; have z4:=(HV.out _ K6).2.2.1; have e0:=z4.c0; have e1:=z4.c1; have e2:=z4.c2; have e3:=z4.c3; have y0:=z4.fz 0; have y1:=z4.fz 1; have y2:=z4.fz 2; have y3:=z4.fz 3))
 have HZ:=hid' (And.intro z4 (HV.out _ K6).2.2.2.1)
 clear q0 q1 q4 q5 d0 d1 d2 d3 g0 g1 g2 g3 j0 j1 j2 j3 hk4 hk5 hk6 K4 K5 K6 HV z4
 go_wp2
 refine bodyPost_ret (v:=.agg #[.bool s5,.slice a5 k5 c5,.bool false,.slice a6 k6 c6]) (by simp [results,Tryz.results53,go_sem,e0,e1,e2,e3]) rfl ⟨F.Kept.put4 HZ.out.2 HP.out _ _ _ _,_,m * pw x.toNat,1,rfl,⟨s5,a5,k5,c5,false,a6,k6,c6,rfl,F.nset4 H6.out.2.2 HZ.out.1,F.nset4 H6.out.1 HZ.out.1,by have h1:=H5.out.2; have h2:=HL.out; have h3:=H4.out.2; omega,by have h1:=H6.out.2.1; omega⟩,scl_whole (by omega)⟩
theorem of_any (m x:Int) (h1:-9223372036854775808≤m) (h2:m≤9223372036854775807) (h3:-50≤x) (h4:x≤50) (w:World) :
  Calls Tryz.prog 53 #[.agg #[.int .i64 m,.int .i64 x]] w fun e w' => Kept w w'∧FE w' e m x:=by
 by_cases h:x < 0
 ·
  exact of_neg m x h1 h2 h h3 w
 ·
  exact of_pos m x h1 h2 h h4 w
end Q
end Go.Proofs.YtembglnonhlnkaaGreatDoor

namespace Go.Proofs.YtembglnonhlnkaaGreatDoor
open Go.RowKit
namespace Q
def FQ (w:World) (e:Ending) (X Y:Int) (k k':Nat):Prop:=∃ v,e = .returned v∧F.FIs w v X Y k k'
end Q
end Go.Proofs.YtembglnonhlnkaaGreatDoor

namespace Go.Proofs.YtembglnonhlnkaaGreatDoor
open Go.RowKit
namespace V
open Q (okN okN_bd Scl)
def lev (p:Int × Int):Int:=F.near (U p.1 p.2) 1000000000
def seg (p q:Int × Int) (g L:Int):Int:=F.near (U p.1 p.2 * (L - g) + U q.1 q.2 * g) (L.toNat * 1000000000)
def sayP (p q:Int × Int) (d r b f P t:Int):Int :=
 if t < d then lev p else
  if (t - d) % P < r then seg p q ((t - d) % P) r else if (t - d) % P < r + b then lev q else if (t - d) % P < r + b + f then seg q p ((t - d) % P - (r + b)) f else lev p
def sayQ (vs:List (Int × Int)) (ss:List Int) (t:Int):Int :=
 if fa ss t = ss.length then lev (vs.getD (vs.length - 1) (0,0)) else if fa ss t = 0 then lev (vs.getD 0 (0,0)) else
  seg (vs.getD (fa ss t - 1) (0,0)) (vs.getD (fa ss t) (0,0)) (t - ss.getD (fa ss t - 1) 0) (ss.getD (fa ss t) 0 - ss.getD (fa ss t - 1) 0)
def sayW (k:Int) (vs:List (Int × Int)) (ss:List Int) (t:Int):Int :=
 if k = 2 then sayP (vs.getD 0 (0,0)) (vs.getD 1 (0,0)) (ss.getD 0 0) (ss.getD 1 0) (ss.getD 2 0) (ss.getD 3 0) (ss.getD 4 0) t else if k = 3 then sayQ vs ss t else lev (vs.getD (t % vs.length).toNat (0,0))
def corP (d r b f P t:Int):Int :=
 if t < d then d else t - (t - d) % P + (if (t - d) % P < r then r else if (t - d) % P < r + b then r + b else if (t - d) % P < r + b + f then r + b + f else P)
def corW (k:Int) (ss:List Int) (t:Int):Option Int :=
 if k = 2 then some (corP (ss.getD 0 0) (ss.getD 1 0) (ss.getD 2 0) (ss.getD 3 0) (ss.getD 4 0) t) else if k = 3 then (if fa ss t = ss.length then none else some (ss.getD (fa ss t) 0)) else if k = 4 then some (t + 1) else none
def nxtW (k:Int) (ss:List Int) (t:Int):Int × Bool :=
 match corW k ss t with
 | none => (0,false)
 | some c => if c≤1000000000 then (c,true) else (0,false)
def atW (k:Int) (vs:List (Int × Int)) (ss:List Int) (t:Int):Int × Int :=
 if okW k vs ss = true then (if okS t = true then (F.gridV (sayW k vs ss t),F.gridE (sayW k vs ss t)) else (0,4)) else (0,40)
def nextW (k:Int) (vs:List (Int × Int)) (ss:List Int) (t:Int):Int × Bool :=
 if okW k vs ss = true∧okS t = true then nxtW k ss t else (0,false)
end V
end Go.Proofs.YtembglnonhlnkaaGreatDoor

namespace Go.Proofs.YtembglnonhlnkaaGreatDoor
open Go.RowKit
namespace V
open Q (okN okN_bd Scl hid')
theorem nis_short {w:World} {s:Bool} {ao:Option Addr} {k c:Nat} {z:Int} (h:D.NIs w s (.slice ao k c) z) (hz:z.natAbs≤10 ^ 100):k≤100:=by
 obtain ⟨l,h1,h2,rfl⟩:=h
 have e:=h1.len
 subst e
 rw [D.natAbs_int] at hz
 apply Classical.byContradiction
 intro hk
 have h3:=D.val_ge h2.tr (fun e => by rw [e] at hk; simp at hk)
 have h4:65536 ^ 100≤65536 ^ (l.length - 1):=Nat.pow_le_pow_right (by decide) (by omega)
 have h5:(10:Nat) ^ 100 < 65536 ^ 100:=by decide
 exact absurd (Nat.le_trans h4 (Nat.le_trans h3 hz)) (by omega)
def FT (w:World) (v:Value) (A:Int) (S:Nat):Prop:=∃ N D:Int,F.FIs w v N D 100 100∧0 < D∧Nat.gcd N.natAbs D.natAbs = 1∧N * (S:Int) = A * D
theorem FT.kept {w w':World} {v:Value} {A:Int} {S:Nat} (h:FT w v A S) (k:Kept w w'):FT w' v A S:=by
 obtain ⟨N,D,h1,h2⟩:=h
 exact ⟨N,D,h1.kept k,h2⟩
section
variable {v v':Value} {A A':Int} {S T:Nat} (w:World)
theorem ft_num (m x:Int) (h:okN m x = true):Calls Tryz.prog 53 #[.agg #[.int .i64 m,.int .i64 x]] w fun e w' => Kept w w'∧∃ u,e = .returned u∧FT w' u (U m x) (10 ^ 18):=by
 have hb:=okN_bd h
 refine (Q.of_any m x (by omega) (by omega) (by omega) (by omega) w).mono ?_
 rintro e w' ⟨hk,u,N,D,rfl,⟨s,ao,n,c,t,ap,n',c',rfl,h1,h2,h3,h4⟩,hs⟩
 have e1:=scl_u hb.2.2.1 hs
 have hbd:=low_bd hs.2.1 (by decide) e1
 have hu:=u_bd h
 have h36:(10:Nat) ^ 36≤10 ^ 100:=by decide
 have h18:(10:Nat) ^ 18≤10 ^ 100:=by decide
 exact ⟨hk,_,rfl,N,D,⟨s,ao,n,c,t,ap,n',c',rfl,h1,h2,nis_short h1 (by omega),nis_short h2 (by rw [Int.natAbs_natCast]; omega)⟩,by have:=hs.1; omega,by rw [Int.natAbs_natCast]; exact hs.2.1,e1⟩
end
end V
end Go.Proofs.YtembglnonhlnkaaGreatDoor

namespace Go.Proofs.YtembglnonhlnkaaGreatDoor
open Go.RowKit
namespace Q
def RVal (B:Nat) (w':World) (e:Ending) (m x:Int):Prop :=
 (okN m x = false∧e = .returned (.tuple #[.agg #[.bool false,.slice none 0 0,.bool false,.slice none 0 0],.int .i64 30])) ∨ (okN m x = true∧∃ (s:Bool) (ao:Option Addr) (k c:Nat) (l:List Nat) (t:Bool) (ap:Option Addr) (k' c':Nat) (l':List Nat) (N:Int) (D:Nat),e = .returned (.tuple #[.agg #[.bool s,.slice ao k c,.bool t,.slice ap k' c'],.int .i64 0])∧New B w' (.slice ao k c) l∧New B w' (.slice ap k' c') l'∧M.Right s l∧M.Right t l'∧M.int s l = N∧M.int t l' = D∧Scl m x N D)
end Q
end Go.Proofs.YtembglnonhlnkaaGreatDoor

namespace Go.Proofs.YtembglnonhlnkaaGreatDoor
open Go.RowKit
namespace Q
structure Lay (w:World):Prop where
 lett:Lett w
 err:ErrV w
 tab:Tab w
theorem Lay.kept {w w':World} (h:Lay w) (k:Kept w w'):Lay w':=⟨h.lett.kept k,h.err.kept k,h.tab.kept k⟩
end Q
end Go.Proofs.YtembglnonhlnkaaGreatDoor

namespace Go.Proofs.YtembglnonhlnkaaGreatDoor
open Go.RowKit
namespace Q
def isdI (z:Int):Bool:=decide (48≤z∧z≤57)
theorem isdI_yes {z:Int} (h1:48≤z) (h2:z≤57):isdI z = true:=decide_eq_true ⟨h1,h2⟩
theorem isdI_no {c:UInt8} (h:¬ (48≤c.toNat∧c.toNat≤57)):isdI (c.toNat:Int) = false:=decide_eq_false (by omega)
set_option maxHeartbeats 2000000 in
theorem isDigit_any (z:Int) (w:World):Calls Tryz.prog 69 #[.int .u8 z] w fun e w' => Kept w w'∧e = .returned (.bool (isdI z)):=by
 go_enter Tryz.func69,Tryz.ntmps69
 go_wp2
 all_goals
  go_ret
  refine ⟨Kept.refl w,congrArg (fun b => Ending.returned (Value.bool b)) ?_⟩
  unfold isdI
  simp_all
  try omega
theorem part_none' (s:ByteArray) (f:Nat):(s.data.toList.take f).drop f = []:=by
 apply List.drop_eq_nil_of_le; rw [List.length_take]; omega
theorem part_succ' (s:ByteArray) (f i:Nat) (hf:f≤i) (hi:i < s.size):(s.data.toList.take (i + 1)).drop f = (s.data.toList.take i).drop f ++ [s[i]]:=by
 have hl:s.data.toList.length = s.size:=by rw [Array.length_toList]; rfl
 rw [List.take_succ_eq_append_getElem (by rw [hl]; exact hi),List.drop_append_of_le_length (by rw [List.length_take,hl]; omega)]
 rfl
theorem mem_drop' (s:ByteArray) (f i:Nat) (hf:f≤i) (hi:i < s.size):s[i] ∈ s.data.toList.drop f:=by
 have hl:s.data.toList.length = s.size:=by rw [Array.length_toList]; rfl
 rw [List.mem_iff_getElem?]
 refine ⟨i - f,?_⟩
 rw [List.getElem?_drop,show f + (i - f) = i by omega,list_at s i hi]
theorem hd_at (s:ByteArray) (c:UInt8) (h:0 < s.size):hd c s.data.toList = decide (s[0].toNat = c.toNat):=by
 unfold hd
 rw [List.head?_eq_getElem?,list_at s 0 h]
 by_cases e:s[0] = c
 ·
  simp [e]
 ·
  have:¬ s[0].toNat = c.toNat:=fun h => e (UInt8.toNat_inj.1 h)
  simp [e,this]
theorem hd_drop (s:ByteArray) (c:UInt8) (h:1 < s.size):hd c (s.data.toList.drop 1) = decide (s[1].toNat = c.toNat):=by
 unfold hd
 rw [List.head?_drop,list_at s 1 h]
 by_cases e:s[1] = c
 ·
  simp [e]
 ·
  have:¬ s[1].toNat = c.toNat:=fun h => e (UInt8.toNat_inj.1 h)
  simp [e,this]
theorem idxC (k:Nat) (h:k < 10):∃ nm,names[k]? = some (nm,3 * (k:Int) - 15)∧(#[.string ⟨#[102]⟩,.string ⟨#[112]⟩,.string ⟨#[110]⟩,.string ⟨#[117]⟩,.string ⟨#[109]⟩,.string ⟨#[]⟩,.string ⟨#[107]⟩,.string ⟨#[109,101,103]⟩,.string ⟨#[103]⟩,.string ⟨#[116]⟩]:Array Value)[k]? = some (.string ⟨nm.toArray⟩):=by
 match k,h with
 | 0,_ => exact ⟨_,rfl,rfl⟩
 | 1,_ => exact ⟨_,rfl,rfl⟩
 | 2,_ => exact ⟨_,rfl,rfl⟩
 | 3,_ => exact ⟨_,rfl,rfl⟩
 | 4,_ => exact ⟨_,rfl,rfl⟩
 | 5,_ => exact ⟨_,rfl,rfl⟩
 | 6,_ => exact ⟨_,rfl,rfl⟩
 | 7,_ => exact ⟨_,rfl,rfl⟩
 | 8,_ => exact ⟨_,rfl,rfl⟩
 | 9,_ => exact ⟨_,rfl,rfl⟩
set_option maxRecDepth 100000 in
set_option maxHeartbeats 16000000 in
theorem tail_any (s:ByteArray) (w:World) (hs:s.size≤32) :
  Calls Tryz.prog 72 #[.string s] w fun e w' => Kept w w'∧PowIs e (powOf s.data.toList):=by
 go_enter Tryz.func72,Tryz.ntmps72
 go_upto_region 2 with fail
 have hK:=(Kept.refl w).alloc (.cells #[.string ⟨#[102]⟩,.string ⟨#[112]⟩,.string ⟨#[110]⟩,.string ⟨#[117]⟩,.string ⟨#[109]⟩,.string ⟨#[]⟩,.string ⟨#[107]⟩,.string ⟨#[109,101,103]⟩,.string ⟨#[103]⟩,.string ⟨#[116]⟩] 9)
 have hC:∀ k,(w.alloc (.cells #[.string ⟨#[102]⟩,.string ⟨#[112]⟩,.string ⟨#[110]⟩,.string ⟨#[117]⟩,.string ⟨#[109]⟩,.string ⟨#[]⟩,.string ⟨#[107]⟩,.string ⟨#[109,101,103]⟩,.string ⟨#[103]⟩,.string ⟨#[116]⟩] 9)).cell? ⟨w.heap.size,k,none⟩ = (#[.string ⟨#[102]⟩,.string ⟨#[112]⟩,.string ⟨#[110]⟩,.string ⟨#[117]⟩,.string ⟨#[109]⟩,.string ⟨#[]⟩,.string ⟨#[107]⟩,.string ⟨#[109,101,103]⟩,.string ⟨#[103]⟩,.string ⟨#[116]⟩]:Array Value)[k]?:=fun k => World.cell?_alloc_at _ _ _ _ rfl
 generalize w.alloc (.cells #[.string ⟨#[102]⟩,.string ⟨#[112]⟩,.string ⟨#[110]⟩,.string ⟨#[117]⟩,.string ⟨#[109]⟩,.string ⟨#[]⟩,.string ⟨#[107]⟩,.string ⟨#[109,101,103]⟩,.string ⟨#[103]⟩,.string ⟨#[116]⟩] 9) = W at hK hC ⊢
 obtain ⟨p4,hp4⟩:∃ p,p = w.heap.size:=⟨_,rfl⟩
 rw [← hp4] at hC ⊢
 have HK0:=hid' hK
 have HC:=hid' hC
 clear hp4 hK hC
 go_wp2_with fail
 go_loopw [5] (fun vi wr => ∃ k:Nat,k≤10∧vi = .int .i64 (k:Int)∧Hid (Kept W wr∧∀ p ∈ names.take k,¬ p.1 = s.data.toList)) (fun vi _ => 10 - (intOf vi).toNat)
 case atStart => exact ⟨0,Nat.zero_le _,rfl,Kept.refl _,fun p hp => by simp at hp⟩
 case round =>
  obtain ⟨k,hk,rfl,HI⟩:=hrel
  by_cases hlt:k < 10
  ·
   obtain ⟨nm,hnm,hcv⟩:=idxC k hlt
   have hlt':(k:Int) < 10:=by omega
   have hk0:(0:Int)≤(k:Int):=by omega
   have HN:=hid' hnm
   have hc:=cell_kept HI.out.1 ((HC.out k).trans hcv)
   have hw1:IntKind.i64.wrap (3 * (k:Int)) = 3 * (k:Int):=wrap_i64' (by omega) (by omega)
   have hw2:IntKind.i64.wrap (3 * (k:Int) - 15) = 3 * (k:Int) - 15:=wrap_i64' (by omega) (by omega)
   clear hnm hcv
   by_cases he:nm = s.data.toList
   ·
    have hs':(s.toList == nm) = true:=by rw [Go.ByteArray.toList_eq,he]; simp
    have HE:=hid' he
    clear he
    go_wp2_with fail
    go_ret2
    exact ⟨HK0.out.trans HI.out.1,.inr ⟨_,by unfold powOf; rw [lett_yes HN.out HE.out HI.out.2],rfl,by omega,by omega⟩⟩
   ·
    have hs':(s.toList == nm) = false:=by rw [Go.ByteArray.toList_eq]; simpa using fun h => he h.symm
    have HE:=hid' he
    clear he
    go_wp2_with fail
    go_roundw
    case rel => exact ⟨k + 1,by omega,by go_num,HI.out.1,take_next HN.out HI.out.2 HE.out⟩
    case measure => show 10 - ((k:Int) + 1).toNat < 10 - (k:Int).toNat; omega
  ·
   obtain rfl:k = 10:=by omega
   have hno:=lett_no (L:=s.data.toList) (fun p hp => HI.out.2 p (by simpa [names] using hp))
   have HN:=hid' hno
   have hne:s.data.toList ≠ []:=fun e => by rw [e] at hno; cases hno
   obtain ⟨KW⟩:PLift (Kept W wr):=⟨HI.out.1⟩
   have HK:=hid' (HK0.out.trans KW)
   have hsz:0 < s.size:=by
    rcases Nat.eq_zero_or_pos s.size with h | h
    ·
     exact absurd (List.eq_nil_of_length_eq_zero (by rw [Array.length_toList]; exact h)) hne
    ·
     exact h
   clear hno hne
   have hh:hd 101 s.data.toList = decide (s[0].toNat = 101):=hd_at s 101 hsz
   by_cases h101:s[0].toNat = 101
   ·
    have hb:((s[0].toNat:Int) == 101) = true:=by simp [h101]
    have hh1:hd 101 s.data.toList = true:=by rw [hh]; exact decide_eq_true h101
    have hcutE:cutB 101 s.data.toList = s.data.toList.drop 1:=by unfold cutB; rw [if_pos hh1,List.drop_one]
    clear h101 hh
    by_cases hs1:1 < s.size
    ·
     have hs1':(1:Int) < (s.size:Int):=by omega
     have hd1:hd 45 (s.data.toList.drop 1) = decide (s[1].toNat = 45):=hd_drop s 45 hs1
     have hd2:hd 43 (s.data.toList.drop 1) = decide (s[1].toNat = 43):=hd_drop s 43 hs1
     by_cases h45:s[1].toNat = 45
     ·
      have hm:((s[1].toNat:Int) == 45) = true:=by simp [h45]
      have hp:((s[1].toNat:Int) == 43) = false:=by simp [h45]
      have HE:Hid (behindE s.data.toList = s.data.toList.drop 2∧hd 45 (cutB 101 s.data.toList) = true∧hd 101 s.data.toList = true):=by
       refine ⟨?_,?_,hh1⟩
       ·
        unfold behindE; rw [hcutE,hd1,decide_eq_true h45,if_pos rfl]
        unfold cutB; rw [hd1,decide_eq_true h45,if_pos rfl,List.tail_drop]
       ·
        rw [hcutE,hd1,decide_eq_true h45]
      clear h45 hd1 hd2 hcutE hh1
      have hlen:(s.data.toList.drop 2).length = s.size - 2:=by rw [List.length_drop,Array.length_toList]; rfl
      by_cases hl1:s.size - 2 = 1 ∨ s.size - 2 = 2
      rotate_left
      ·
       have HNO:=hid' (pow_no HN.out (fun hh => hl1 (by
        have e1:=congrArg List.length (dgs_rst (behindE s.data.toList))
        rw [hh.2.1,List.append_nil,HE.out.1,hlen] at e1
        have e2:=hh.2.2.1; have e3:=hh.2.2.2
        rw [HE.out.1] at e2 e3
        omega)))
       have hc1:(s.size:Int) - 2 < 1 ∨ 2 < (s.size:Int) - 2:=by omega
       clear hl1
       rcases hc1 with hc1 | hc1
       ·
        have hw:IntKind.i64.wrap ((s.size:Int) - 2) = (s.size:Int) - 2:=wrap_i64' (by omega) (by omega)
        go_wp2_with fail
        all_goals
         go_ret2
         exact ⟨HK.out,.inl ⟨HNO.out,rfl⟩⟩
       ·
        have hw:IntKind.i64.wrap ((s.size:Int) - 2) = (s.size:Int) - 2:=wrap_i64' (by omega) (by omega)
        go_wp2_with fail
        all_goals
         go_ret2
         exact ⟨HK.out,.inl ⟨HNO.out,rfl⟩⟩
      have hw:IntKind.i64.wrap ((s.size:Int) - 2) = (s.size:Int) - 2:=wrap_i64' (by omega) (by omega)
      have hc1:¬ (s.size:Int) - 2 < 1:=by omega
      have hc2:¬ 2 < (s.size:Int) - 2:=by omega
      go_wp2_with fail
      all_goals first | (exfalso; omega) | skip
      go_loopw [6,8] (fun vi vv wr => ∃ (j v:Nat),2≤j∧j≤s.size∧vi = .int .i64 (j:Int)∧vv = .int .i64 (v:Int)∧v≤99∧Hid (Kept W wr∧Dig ((s.data.toList.take j).drop 2)∧v = dv ((s.data.toList.take j).drop 2))) (fun vi _ _ => s.size - (intOf vi).toNat)
      case atStart => exact ⟨2,0,Nat.le_refl _,by omega,rfl,rfl,by omega,KW,by rw [part_none']; exact fun c hc => by simp at hc,by rw [part_none']; rfl⟩
      case round =>
       obtain ⟨j,v,hj0,hj1,rfl,rfl,hv,HI⟩:=hrel
       by_cases hlt:j < s.size
       ·
        have hji:(j:Int) < (s.size:Int):=by omega
        by_cases hd:48≤s[j].toNat∧s[j].toNat≤57
        ·
         have hd1:(48:Int)≤(s[j].toNat:Int):=by omega
         have hd2:(s[j].toNat:Int)≤57:=by omega
         have hw1:IntKind.u8.wrap ((s[j].toNat:Int) - 48) = (s[j].toNat:Int) - 48:=by rw [IntKind.wrap_u8]; omega
         have hw2:IntKind.i64.wrap ((s[j].toNat:Int) - 48) = (s[j].toNat:Int) - 48:=wrap_i64' (by omega) (by omega)
         have hD':Dig ((s.data.toList.take (j + 1)).drop 2):=by
          rw [part_succ' s 2 j hj0 hlt]
          exact HI.out.2.1.append (fun c hc => by rw [List.mem_singleton] at hc; subst hc; exact hd)
         have hv':dv ((s.data.toList.take (j + 1)).drop 2) = v * 10 + (s[j].toNat - 48):=by rw [part_succ' s 2 j hj0 hlt,dv_snoc,HI.out.2.2]
         have hv9:v * 10 + (s[j].toNat - 48)≤99:=by
          rw [← hv']
          refine dv_two hD' ?_
          rw [List.length_drop,List.length_take,Array.length_toList]
          have e:s.data.size = s.size:=rfl
          omega
         have HD:=hid' (And.intro hD' hv')
         have hw3:IntKind.i64.wrap (10 * (v:Int)) = 10 * (v:Int):=wrap_i64' (by omega) (by omega)
         have hw4:IntKind.i64.wrap (10 * (v:Int) + ((s[j].toNat:Int) - 48)) = 10 * (v:Int) + ((s[j].toNat:Int) - 48):=wrap_i64' (by omega) (by omega)
         clear hd hD' hv'
         go_wp2_with (first | (go_at_call 69; refine (isDigit_any _ _).mono ?_; rintro e w9 ⟨hk9,rfl⟩; rw [isdI_yes hd1 hd2]))
         go_roundw
         case rel => exact ⟨j + 1,v * 10 + (s[j].toNat - 48),by omega,by omega,by go_num,by congr 1; omega,hv9,HI.out.1.trans hk9,HD.out.1,HD.out.2.symm⟩
         case measure => show s.size - ((j:Int) + 1).toNat < s.size - (j:Int).toNat; omega
        ·
         have HNO:=hid' (pow_no HN.out (fun hh => hd (by
          have e1:=dgs_rst (behindE s.data.toList)
          rw [hh.2.1,List.append_nil,HE.out.1] at e1
          have:=dgs_dig (s.data.toList.drop 2)
          rw [e1] at this
          exact this s[j] (mem_drop' s 2 j hj0 hlt))))
         have hf:=isdI_no hd
         clear hd
         go_wp2_with (first | (go_at_call 69; refine (isDigit_any _ _).mono ?_; rintro e w9 ⟨hk9,rfl⟩; rw [hf]))
         go_ret2
         exact ⟨(HK0.out.trans HI.out.1).trans hk9,.inl ⟨HNO.out,rfl⟩⟩
       ·
        obtain rfl:j = s.size:=by omega
        have hji:¬ ((s.size:Int)) < (s.size:Int):=by omega
        have e0:(s.data.toList.take s.size).drop 2 = behindE s.data.toList:=by rw [List.take_of_length_le (by rw [Array.length_toList]; exact Nat.le_refl _),HE.out.1]
        have hDD:Dig (behindE s.data.toList):=by rw [← e0]; exact HI.out.2.1
        have hcut:=cut_at (T:=[]) hDD (fun c hc => by simp at hc)
        rw [List.append_nil] at hcut
        have hlen:(s.data.toList.drop 2).length = s.size - 2:=by rw [List.length_drop,Array.length_toList]; rfl
        have HY:=hid' (pow_yes HN.out ⟨HE.out.2.2,hcut.2,by rw [hcut.1,HE.out.1,hlen]; omega,by rw [hcut.1,HE.out.1,hlen]; omega⟩)
        have HV:Hid (v = dv (dgs (behindE s.data.toList))):=by show _ = _; rw [hcut.1,← e0]; exact HI.out.2.2
        have hw5:IntKind.i64.wrap (-1 * (v:Int)) = -1 * (v:Int):=wrap_i64' (by omega) (by omega)
        clear hDD hcut e0
        go_wp2_with fail
        go_ret2
        refine ⟨HK0.out.trans HI.out.1,.inr ⟨_,HY.out,?_,?_,?_⟩⟩
        ·
         rw [HE.out.2.1,← HV.out]
         simp
        ·
         rw [HE.out.2.1,← HV.out]; simp <;> omega
        ·
         rw [HE.out.2.1,← HV.out]; simp <;> omega
     ·
      have hm:((s[1].toNat:Int) == 45) = false:=by simpa using fun h => h45 (by omega)
      by_cases h43:s[1].toNat = 43
      ·
       have hp:((s[1].toNat:Int) == 43) = true:=by simp [h43]
       have HE:Hid (behindE s.data.toList = s.data.toList.drop 2∧hd 45 (cutB 101 s.data.toList) = false∧hd 101 s.data.toList = true):=by
        refine ⟨?_,?_,hh1⟩
        ·
         unfold behindE; rw [hcutE,hd1,decide_eq_false h45,if_neg (by decide)]
         unfold cutB; rw [hd2,decide_eq_true h43,if_pos rfl,List.tail_drop]
        ·
         rw [hcutE,hd1,decide_eq_false h45]
       clear h45 h43 hd1 hd2 hcutE hh1
       have hlen:(s.data.toList.drop 2).length = s.size - 2:=by rw [List.length_drop,Array.length_toList]; rfl
       by_cases hl1:s.size - 2 = 1 ∨ s.size - 2 = 2
       rotate_left
       ·
        have HNO:=hid' (pow_no HN.out (fun hh => hl1 (by
         have e1:=congrArg List.length (dgs_rst (behindE s.data.toList))
         rw [hh.2.1,List.append_nil,HE.out.1,hlen] at e1
         have e2:=hh.2.2.1; have e3:=hh.2.2.2
         rw [HE.out.1] at e2 e3
         omega)))
        have hc1:(s.size:Int) - 2 < 1 ∨ 2 < (s.size:Int) - 2:=by omega
        clear hl1
        rcases hc1 with hc1 | hc1
        ·
         have hw:IntKind.i64.wrap ((s.size:Int) - 2) = (s.size:Int) - 2:=wrap_i64' (by omega) (by omega)
         go_wp2_with fail
         all_goals
          go_ret2
          exact ⟨HK.out,.inl ⟨HNO.out,rfl⟩⟩
        ·
         have hw:IntKind.i64.wrap ((s.size:Int) - 2) = (s.size:Int) - 2:=wrap_i64' (by omega) (by omega)
         go_wp2_with fail
         all_goals
          go_ret2
          exact ⟨HK.out,.inl ⟨HNO.out,rfl⟩⟩
       have hw:IntKind.i64.wrap ((s.size:Int) - 2) = (s.size:Int) - 2:=wrap_i64' (by omega) (by omega)
       have hc1:¬ (s.size:Int) - 2 < 1:=by omega
       have hc2:¬ 2 < (s.size:Int) - 2:=by omega
       go_wp2_with fail
       all_goals first | (exfalso; omega) | skip
       go_loopw [6,8] (fun vi vv wr => ∃ (j v:Nat),2≤j∧j≤s.size∧vi = .int .i64 (j:Int)∧vv = .int .i64 (v:Int)∧v≤99∧Hid (Kept W wr∧Dig ((s.data.toList.take j).drop 2)∧v = dv ((s.data.toList.take j).drop 2))) (fun vi _ _ => s.size - (intOf vi).toNat)
       case atStart => exact ⟨2,0,Nat.le_refl _,by omega,rfl,rfl,by omega,KW,by rw [part_none']; exact fun c hc => by simp at hc,by rw [part_none']; rfl⟩
       case round =>
        obtain ⟨j,v,hj0,hj1,rfl,rfl,hv,HI⟩:=hrel
        by_cases hlt:j < s.size
        ·
         have hji:(j:Int) < (s.size:Int):=by omega
         by_cases hd:48≤s[j].toNat∧s[j].toNat≤57
         ·
          have hd1:(48:Int)≤(s[j].toNat:Int):=by omega
          have hd2:(s[j].toNat:Int)≤57:=by omega
          have hw1:IntKind.u8.wrap ((s[j].toNat:Int) - 48) = (s[j].toNat:Int) - 48:=by rw [IntKind.wrap_u8]; omega
          have hw2:IntKind.i64.wrap ((s[j].toNat:Int) - 48) = (s[j].toNat:Int) - 48:=wrap_i64' (by omega) (by omega)
          have hD':Dig ((s.data.toList.take (j + 1)).drop 2):=by
           rw [part_succ' s 2 j hj0 hlt]
           exact HI.out.2.1.append (fun c hc => by rw [List.mem_singleton] at hc; subst hc; exact hd)
          have hv':dv ((s.data.toList.take (j + 1)).drop 2) = v * 10 + (s[j].toNat - 48):=by rw [part_succ' s 2 j hj0 hlt,dv_snoc,HI.out.2.2]
          have hv9:v * 10 + (s[j].toNat - 48)≤99:=by
           rw [← hv']
           refine dv_two hD' ?_
           rw [List.length_drop,List.length_take,Array.length_toList]
           have e:s.data.size = s.size:=rfl
           omega
          have HD:=hid' (And.intro hD' hv')
          have hw3:IntKind.i64.wrap (10 * (v:Int)) = 10 * (v:Int):=wrap_i64' (by omega) (by omega)
          have hw4:IntKind.i64.wrap (10 * (v:Int) + ((s[j].toNat:Int) - 48)) = 10 * (v:Int) + ((s[j].toNat:Int) - 48):=wrap_i64' (by omega) (by omega)
          clear hd hD' hv'
          go_wp2_with (first | (go_at_call 69; refine (isDigit_any _ _).mono ?_; rintro e w9 ⟨hk9,rfl⟩; rw [isdI_yes hd1 hd2]))
          go_roundw
          case rel => exact ⟨j + 1,v * 10 + (s[j].toNat - 48),by omega,by omega,by go_num,by congr 1; omega,hv9,HI.out.1.trans hk9,HD.out.1,HD.out.2.symm⟩
          case measure => show s.size - ((j:Int) + 1).toNat < s.size - (j:Int).toNat; omega
         ·
          have HNO:=hid' (pow_no HN.out (fun hh => hd (by
           have e1:=dgs_rst (behindE s.data.toList)
           rw [hh.2.1,List.append_nil,HE.out.1] at e1
           have:=dgs_dig (s.data.toList.drop 2)
           rw [e1] at this
           exact this s[j] (mem_drop' s 2 j hj0 hlt))))
          have hf:=isdI_no hd
          clear hd
          go_wp2_with (first | (go_at_call 69; refine (isDigit_any _ _).mono ?_; rintro e w9 ⟨hk9,rfl⟩; rw [hf]))
          go_ret2
          exact ⟨(HK0.out.trans HI.out.1).trans hk9,.inl ⟨HNO.out,rfl⟩⟩
        ·
         obtain rfl:j = s.size:=by omega
         have hji:¬ ((s.size:Int)) < (s.size:Int):=by omega
         have e0:(s.data.toList.take s.size).drop 2 = behindE s.data.toList:=by rw [List.take_of_length_le (by rw [Array.length_toList]; exact Nat.le_refl _),HE.out.1]
         have hDD:Dig (behindE s.data.toList):=by rw [← e0]; exact HI.out.2.1
         have hcut:=cut_at (T:=[]) hDD (fun c hc => by simp at hc)
         rw [List.append_nil] at hcut
         have hlen:(s.data.toList.drop 2).length = s.size - 2:=by rw [List.length_drop,Array.length_toList]; rfl
         have HY:=hid' (pow_yes HN.out ⟨HE.out.2.2,hcut.2,by rw [hcut.1,HE.out.1,hlen]; omega,by rw [hcut.1,HE.out.1,hlen]; omega⟩)
         have HV:Hid (v = dv (dgs (behindE s.data.toList))):=by show _ = _; rw [hcut.1,← e0]; exact HI.out.2.2
         have hw5:IntKind.i64.wrap (1 * (v:Int)) = 1 * (v:Int):=wrap_i64' (by omega) (by omega)
         clear hDD hcut e0
         go_wp2_with fail
         go_ret2
         refine ⟨HK0.out.trans HI.out.1,.inr ⟨_,HY.out,?_,?_,?_⟩⟩
         ·
          rw [HE.out.2.1,← HV.out]
          simp
         ·
          rw [HE.out.2.1,← HV.out]; simp <;> omega
         ·
          rw [HE.out.2.1,← HV.out]; simp <;> omega
      ·
       have hp:((s[1].toNat:Int) == 43) = false:=by simpa using fun h => h43 (by omega)
       have HE:Hid (behindE s.data.toList = s.data.toList.drop 1∧hd 45 (cutB 101 s.data.toList) = false∧hd 101 s.data.toList = true):=by
        refine ⟨?_,?_,hh1⟩
        ·
         unfold behindE; rw [hcutE,hd1,decide_eq_false h45,if_neg (by decide)]
         unfold cutB; rw [hd2,decide_eq_false h43,if_neg (by decide)]
        ·
         rw [hcutE,hd1,decide_eq_false h45]
       clear h45 h43 hd1 hd2 hcutE hh1
       have hlen:(s.data.toList.drop 1).length = s.size - 1:=by rw [List.length_drop,Array.length_toList]; rfl
       by_cases hl1:s.size - 1 = 1 ∨ s.size - 1 = 2
       rotate_left
       ·
        have HNO:=hid' (pow_no HN.out (fun hh => hl1 (by
         have e1:=congrArg List.length (dgs_rst (behindE s.data.toList))
         rw [hh.2.1,List.append_nil,HE.out.1,hlen] at e1
         have e2:=hh.2.2.1; have e3:=hh.2.2.2
         rw [HE.out.1] at e2 e3
         omega)))
        have hc1:(s.size:Int) - 1 < 1 ∨ 2 < (s.size:Int) - 1:=by omega
        clear hl1
        rcases hc1 with hc1 | hc1
        ·
         have hw:IntKind.i64.wrap ((s.size:Int) - 1) = (s.size:Int) - 1:=wrap_i64' (by omega) (by omega)
         go_wp2_with fail
         all_goals
          go_ret2
          exact ⟨HK.out,.inl ⟨HNO.out,rfl⟩⟩
        ·
         have hw:IntKind.i64.wrap ((s.size:Int) - 1) = (s.size:Int) - 1:=wrap_i64' (by omega) (by omega)
         go_wp2_with fail
         all_goals
          go_ret2
          exact ⟨HK.out,.inl ⟨HNO.out,rfl⟩⟩
       have hw:IntKind.i64.wrap ((s.size:Int) - 1) = (s.size:Int) - 1:=wrap_i64' (by omega) (by omega)
       have hc1:¬ (s.size:Int) - 1 < 1:=by omega
       have hc2:¬ 2 < (s.size:Int) - 1:=by omega
       go_wp2_with fail
       all_goals first | (exfalso; omega) | skip
       go_loopw [6,8] (fun vi vv wr => ∃ (j v:Nat),1≤j∧j≤s.size∧vi = .int .i64 (j:Int)∧vv = .int .i64 (v:Int)∧v≤99∧Hid (Kept W wr∧Dig ((s.data.toList.take j).drop 1)∧v = dv ((s.data.toList.take j).drop 1))) (fun vi _ _ => s.size - (intOf vi).toNat)
       case atStart => exact ⟨1,0,Nat.le_refl _,by omega,rfl,rfl,by omega,KW,by rw [part_none']; exact fun c hc => by simp at hc,by rw [part_none']; rfl⟩
       case round =>
        obtain ⟨j,v,hj0,hj1,rfl,rfl,hv,HI⟩:=hrel
        by_cases hlt:j < s.size
        ·
         have hji:(j:Int) < (s.size:Int):=by omega
         by_cases hd:48≤s[j].toNat∧s[j].toNat≤57
         ·
          have hd1:(48:Int)≤(s[j].toNat:Int):=by omega
          have hd2:(s[j].toNat:Int)≤57:=by omega
          have hw1:IntKind.u8.wrap ((s[j].toNat:Int) - 48) = (s[j].toNat:Int) - 48:=by rw [IntKind.wrap_u8]; omega
          have hw2:IntKind.i64.wrap ((s[j].toNat:Int) - 48) = (s[j].toNat:Int) - 48:=wrap_i64' (by omega) (by omega)
          have hD':Dig ((s.data.toList.take (j + 1)).drop 1):=by
           rw [part_succ' s 1 j hj0 hlt]
           exact HI.out.2.1.append (fun c hc => by rw [List.mem_singleton] at hc; subst hc; exact hd)
          have hv':dv ((s.data.toList.take (j + 1)).drop 1) = v * 10 + (s[j].toNat - 48):=by rw [part_succ' s 1 j hj0 hlt,dv_snoc,HI.out.2.2]
          have hv9:v * 10 + (s[j].toNat - 48)≤99:=by
           rw [← hv']
           refine dv_two hD' ?_
           rw [List.length_drop,List.length_take,Array.length_toList]
           have e:s.data.size = s.size:=rfl
           omega
          have HD:=hid' (And.intro hD' hv')
          have hw3:IntKind.i64.wrap (10 * (v:Int)) = 10 * (v:Int):=wrap_i64' (by omega) (by omega)
          have hw4:IntKind.i64.wrap (10 * (v:Int) + ((s[j].toNat:Int) - 48)) = 10 * (v:Int) + ((s[j].toNat:Int) - 48):=wrap_i64' (by omega) (by omega)
          clear hd hD' hv'
          go_wp2_with (first | (go_at_call 69; refine (isDigit_any _ _).mono ?_; rintro e w9 ⟨hk9,rfl⟩; rw [isdI_yes hd1 hd2]))
          go_roundw
          case rel => exact ⟨j + 1,v * 10 + (s[j].toNat - 48),by omega,by omega,by go_num,by congr 1; omega,hv9,HI.out.1.trans hk9,HD.out.1,HD.out.2.symm⟩
          case measure => show s.size - ((j:Int) + 1).toNat < s.size - (j:Int).toNat; omega
         ·
          have HNO:=hid' (pow_no HN.out (fun hh => hd (by
           have e1:=dgs_rst (behindE s.data.toList)
           rw [hh.2.1,List.append_nil,HE.out.1] at e1
           have:=dgs_dig (s.data.toList.drop 1)
           rw [e1] at this
           exact this s[j] (mem_drop' s 1 j hj0 hlt))))
          have hf:=isdI_no hd
          clear hd
          go_wp2_with (first | (go_at_call 69; refine (isDigit_any _ _).mono ?_; rintro e w9 ⟨hk9,rfl⟩; rw [hf]))
          go_ret2
          exact ⟨(HK0.out.trans HI.out.1).trans hk9,.inl ⟨HNO.out,rfl⟩⟩
        ·
         obtain rfl:j = s.size:=by omega
         have hji:¬ ((s.size:Int)) < (s.size:Int):=by omega
         have e0:(s.data.toList.take s.size).drop 1 = behindE s.data.toList:=by rw [List.take_of_length_le (by rw [Array.length_toList]; exact Nat.le_refl _),HE.out.1]
         have hDD:Dig (behindE s.data.toList):=by rw [← e0]; exact HI.out.2.1
         have hcut:=cut_at (T:=[]) hDD (fun c hc => by simp at hc)
         rw [List.append_nil] at hcut
         have hlen:(s.data.toList.drop 1).length = s.size - 1:=by rw [List.length_drop,Array.length_toList]; rfl
         have HY:=hid' (pow_yes HN.out ⟨HE.out.2.2,hcut.2,by rw [hcut.1,HE.out.1,hlen]; omega,by rw [hcut.1,HE.out.1,hlen]; omega⟩)
         have HV:Hid (v = dv (dgs (behindE s.data.toList))):=by show _ = _; rw [hcut.1,← e0]; exact HI.out.2.2
         have hw5:IntKind.i64.wrap (1 * (v:Int)) = 1 * (v:Int):=wrap_i64' (by omega) (by omega)
         clear hDD hcut e0
         go_wp2_with fail
         go_ret2
         refine ⟨HK0.out.trans HI.out.1,.inr ⟨_,HY.out,?_,?_,?_⟩⟩
         ·
          rw [HE.out.2.1,← HV.out]
          simp
         ·
          rw [HE.out.2.1,← HV.out]; simp <;> omega
         ·
          rw [HE.out.2.1,← HV.out]; simp <;> omega
    ·
     have hs1':¬ (1:Int) < (s.size:Int):=by omega
     have hnil:s.data.toList.drop 1 = []:=List.drop_eq_nil_of_le (by rw [Array.length_toList]; show s.size≤1; omega)
     have hbe:behindE s.data.toList = []:=by unfold behindE; rw [hcutE,hnil]; rfl
     have HNO:=hid' (pow_no HN.out (fun hh => by rw [hbe] at hh; have:=hh.2.2.1; simp [dgs] at this))
     obtain hsz1:s.size = 1:=by omega
     have hi1:(s.size:Int) = 1:=by omega
     clear hbe hnil hcutE hh1
     go_wp2_with fail
     all_goals
      go_ret2
      exact ⟨HK.out,.inl ⟨HNO.out,rfl⟩⟩
   ·
    have hb:((s[0].toNat:Int) == 101) = false:=by simpa using fun h => h101 (by omega)
    have hh1:hd 101 s.data.toList = false:=by rw [hh]; exact decide_eq_false h101
    have HNO:=hid' (pow_no HN.out (fun hh => absurd (hh1.symm.trans hh.1) (by decide)))
    clear h101 hh hh1
    go_wp2_with fail
    go_ret2
    exact ⟨HK.out,.inl ⟨HNO.out,rfl⟩⟩
end Q
end Go.Proofs.YtembglnonhlnkaaGreatDoor

namespace Go.Proofs.YtembglnonhlnkaaGreatDoor
open Go.RowKit
namespace Q
def part (L:List UInt8) (f i:Nat):List UInt8:=(L.take i).drop f
theorem part_app (L:List UInt8) (f i:Nat) (hf:f≤i):L.drop f = part L f i ++ L.drop i:=by
 unfold part
 have h:=List.take_append_drop i L
 conv => lhs; rw [← h]
 rcases Nat.lt_or_ge L.length i with hl | hl
 ·
  rw [List.take_of_length_le (by omega),List.drop_eq_nil_of_le (show L.length≤i by omega),List.append_nil,List.append_nil]
 ·
  rw [List.drop_append_of_le_length (by rw [List.length_take]; omega)]
theorem part_len (L:List UInt8) (f i:Nat) (hi:i≤L.length):(part L f i).length = i - f:=by
 unfold part; rw [List.length_drop,List.length_take]; omega
theorem part_self (L:List UInt8) (f:Nat):part L f f = []:=by
 unfold part; apply List.drop_eq_nil_of_le; rw [List.length_take]; omega
theorem part_next (s:ByteArray) (f i:Nat) (hf:f≤i) (hi:i < s.size):part s.data.toList f (i + 1) = part s.data.toList f i ++ [s[i]]:=part_succ' s f i hf hi
def Scan (L:List UInt8) (n:Bool) (i:Nat) (D:List UInt8) (ex:Int):Prop :=
 Dig D∧D ≠ []∧D.length≤32∧(powOf (L.drop i) = none→readOf L = none)∧∀ x,powOf (L.drop i) = some x→readOf L = some (n,D,x + ex)
theorem cut45 {L:List UInt8} {b:Nat} (hb:b = if hd 45 L = true then 1 else 0):cutB 45 L = L.drop b:=by
 unfold cutB
 by_cases h:hd 45 L = true
 ·
  rw [if_pos h] at hb ⊢; subst hb; rw [List.drop_one]
 ·
  rw [if_neg h] at hb ⊢; subst hb; rfl
theorem noDig_head {L:List UInt8} {i:Nat} (h:∀ c,L[i]? = some c→isd c = false):∀ c,(L.drop i).head? = some c→isd c = false:=fun c hc => h c (by rw [← hc,List.head?_drop])
theorem scan_plain {L:List UInt8} {b i:Nat} (hb:b = if hd 45 L = true then 1 else 0) (hl:L.length≤32) (hi:i≤L.length) (hbi:b < i) (hD:Dig (part L b i)) (h1:∀ c,L[i]? = some c→isd c = false) (h2:hd 46 (L.drop i) = false):Scan L (hd 45 L) i (part L b i) 0:=by
 have e0:=cut45 hb
 have hc:=cut_at hD (noDig_head h1)
 rw [← part_app L b i (by omega),← e0] at hc
 have hp:pnt L = false:=by unfold pnt; rw [hc.2,h2]
 have hbe:beh L = []:=by unfold beh; rw [hp]; rfl
 have ht:tl L = L.drop i:=by unfold tl; rw [hp,if_neg (by decide),hc.2,cutB_no h2]
 have hln:=part_len L b i hi
 have hne:part L b i ≠ []:=fun e => by rw [e] at hln; simp at hln; omega
 refine ⟨hD,hne,by omega,fun h => read_no1 (by rw [ht]; exact h),fun x h => ?_⟩
 rw [read_yes hl (by rw [ht]; exact h) (by rw [hc.1,hp]; simp [hne]),hc.1,hbe]
 simp
theorem scan_empty {L:List UInt8} {b:Nat} (hb:b = if hd 45 L = true then 1 else 0) (h1:∀ c,L[b]? = some c→isd c = false):readOf L = none:=by
 have e0:=cut45 hb
 have hc:=cut_at (D:=[]) (T:=L.drop b) (fun c hc => by simp at hc) (noDig_head h1)
 rw [List.nil_append,← e0] at hc
 exact read_no2 (.inl hc.1)
theorem scan_bare {L:List UInt8} {b q:Nat} (hb:b = if hd 45 L = true then 1 else 0) (hbq:b≤q) (hD:Dig (part L b q)) (hq:L[q]? = some 46) (h1:∀ c,L[q + 1]? = some c→isd c = false):readOf L = none:=by
 have e0:=cut45 hb
 have hdr:L.drop q = 46 :: L.drop (q + 1):=by
  have hlt:q < L.length:=by
   rcases Nat.lt_or_ge q L.length with h | h
   ·
    exact h
   ·
    rw [List.getElem?_eq_none h] at hq; cases hq
  rw [List.drop_eq_getElem_cons hlt]
  rw [List.getElem?_eq_getElem hlt] at hq
  rw [Option.some.inj hq]
 have hc:=cut_at hD (T:=L.drop q) (fun c hc => by rw [hdr] at hc; simp at hc; subst hc; decide)
 rw [← part_app L b q hbq,← e0] at hc
 have hp:pnt L = true:=by unfold pnt; rw [hc.2,hdr,hd_self]
 have hc2:=cut_at (D:=[]) (T:=L.drop (q + 1)) (fun c hc => by simp at hc) (noDig_head h1)
 rw [List.nil_append] at hc2
 have hbe:beh L = []:=by unfold beh; rw [if_pos hp,hc.2,hdr,cutB_self]; exact hc2.1
 exact read_no2 (.inr ⟨hp,hbe⟩)
theorem scan_point {L:List UInt8} {b q i:Nat} (hb:b = if hd 45 L = true then 1 else 0) (hl:L.length≤32) (hi:i≤L.length) (hbq:b < q) (hqi:q + 1 < i) (hD:Dig (part L b q)) (hq:L[q]? = some 46) (hB:Dig (part L (q + 1) i)) (h1:∀ c,L[i]? = some c→isd c = false):Scan L (hd 45 L) i (part L b q ++ part L (q + 1) i) (-((i - (q + 1):Nat):Int)):=by
 have e0:=cut45 hb
 have hdr:L.drop q = 46 :: L.drop (q + 1):=by
  have hlt:q < L.length:=by omega
  rw [List.drop_eq_getElem_cons hlt]
  rw [List.getElem?_eq_getElem hlt] at hq
  rw [Option.some.inj hq]
 have hc:=cut_at hD (T:=L.drop q) (fun c hc => by rw [hdr] at hc; simp at hc; subst hc; decide)
 rw [← part_app L b q (by omega),← e0] at hc
 have hp:pnt L = true:=by unfold pnt; rw [hc.2,hdr,hd_self]
 have hc2:=cut_at hB (noDig_head h1)
 rw [← part_app L (q + 1) i (by omega)] at hc2
 have hbe:beh L = part L (q + 1) i:=by unfold beh; rw [if_pos hp,hc.2,hdr,cutB_self]; exact hc2.1
 have ht:tl L = L.drop i:=by unfold tl; rw [if_pos hp,hc.2,hdr,cutB_self]; exact hc2.2
 have hln:=part_len L b q (by omega)
 have hln2:=part_len L (q + 1) i hi
 have hne:part L b q ≠ []:=fun e => by rw [e] at hln; simp at hln; omega
 have hne2:part L (q + 1) i ≠ []:=fun e => by rw [e] at hln2; simp at hln2; omega
 refine ⟨hD.append hB,by simp [hne],by rw [List.length_append]; omega,fun h => read_no1 (by rw [ht]; exact h),fun x h => ?_⟩
 rw [read_yes hl (by rw [ht]; exact h) (by rw [hc.1,hbe]; simp [hne,hne2]),hc.1,hbe,hln2]
 rfl
theorem dv_zeros (D:List UInt8) (k:Nat):dv (D ++ List.replicate k 48) = dv D * 10 ^ k:=by
 induction k with
 | zero => simp
 | succ k ih => rw [List.replicate_succ',← List.append_assoc,dv_snoc,ih,Nat.pow_succ,← Nat.mul_assoc]; rfl
theorem trz_val {D:List UInt8} (h:Dig D):dv D = dv (trz D) * 10 ^ (D.length - (trz D).length)∧(trz D = []∧dv D = 0 ∨ trz D ≠ []∧dv (trz D) % 10 ≠ 0):=by
 obtain ⟨k,e,hh⟩:=trz_spec D
 have hl:D.length = (trz D).length + k:=by have:=congrArg List.length e; simpa using this
 refine ⟨?_,?_⟩
 ·
  rw [show D.length - (trz D).length = k by omega,← dv_zeros,← e]
 ·
  rcases hh with h0 | ⟨E,c,h1,hc⟩
  ·
   left
   refine ⟨h0,?_⟩
   rw [h0,List.nil_append] at e
   rw [e,← List.nil_append (List.replicate k 48),dv_zeros]
   exact Nat.zero_mul _
  ·
   right
   refine ⟨by rw [h1]; simp,?_⟩
   rw [h1,dv_snoc]
   have hd:=h c (by rw [e,h1]; simp)
   have:c.toNat ≠ 48:=fun h => hc (UInt8.toNat_inj.1 h)
   omega
theorem ten_one {c c' z z':Nat} (h:c * 10 ^ z = c' * 10 ^ z') (hc:c % 10 ≠ 0) (hc':c' % 10 ≠ 0):c = c'∧z = z':=by
 rcases Nat.lt_trichotomy z z' with h1 | h1 | h1
 ·
  exfalso
  obtain ⟨d,rfl⟩:∃ d,z' = z + 1 + d:=⟨z' - z - 1,by omega⟩
  rw [show z + 1 + d = (d + 1) + z by omega,Nat.pow_add,← Nat.mul_assoc] at h
  have:=Nat.eq_of_mul_eq_mul_right (Nat.pow_pos (by decide)) h
  rw [this,Nat.pow_succ,← Nat.mul_assoc] at hc
  omega
 ·
  subst h1
  exact ⟨Nat.eq_of_mul_eq_mul_right (Nat.pow_pos (by decide)) h,rfl⟩
 ·
  exfalso
  obtain ⟨d,rfl⟩:∃ d,z = z' + 1 + d:=⟨z - z' - 1,by omega⟩
  rw [show z' + 1 + d = (d + 1) + z' by omega,Nat.pow_add,← Nat.mul_assoc] at h
  have:=Nat.eq_of_mul_eq_mul_right (Nat.pow_pos (by decide)) h
  rw [← this,Nat.pow_succ,← Nat.mul_assoc] at hc'
  omega
theorem dig_lt {D:List UInt8} (h:Dig D):dv D < 10 ^ D.length:=by
 revert h
 refine snocInd (p:=fun D => Dig D→dv D < 10 ^ D.length) (fun _ => by decide) (fun l c ih h => ?_) D
 have h1:=ih (fun x hx => h x (by simp [hx]))
 have h2:=h c (by simp)
 rw [dv_snoc,List.length_append,List.length_singleton,Nat.pow_succ]
 omega
end Q
end Go.Proofs.YtembglnonhlnkaaGreatDoor

namespace Go.Proofs.YtembglnonhlnkaaGreatDoor
open Go.RowKit
namespace Q
theorem hd_at' (s:ByteArray) (c:UInt8) (i:Nat) (h:i < s.size):hd c (s.data.toList.drop i) = decide (s[i].toNat = c.toNat):=by
 unfold hd
 rw [List.head?_drop,list_at s i h]
 by_cases e:s[i] = c
 ·
  simp [e]
 ·
  have:¬ s[i].toNat = c.toNat:=fun h => e (UInt8.toNat_inj.1 h)
  simp [e,this]
structure W3 (w wr:World) (p2 p7 p8:Nat) (sg:Bool) (ao:Option Addr) (k cap:Nat) (z:Nat) (aot:Option Addr) (nt capt:Nat):Prop where
 kp:Kept w wr
 r2:Row2 26 wr p2 (.int .i64 0) (.int .i64 0)
 r7:Row2 87 wr p7 (.bool sg) (.slice ao k cap)
 r8:Row2 87 wr p8 (.bool false) (.slice aot nt capt)
 na:D.NIs wr sg (.slice ao k cap) (z:Int)
 nten:D.NIs wr false (.slice aot nt capt) 10
 ntb:nt≤1
 kb:k≤200
 p7w:w.heap.size≤p7
 ne27:¬ p2 = p7
 ne87:¬ p8 = p7
theorem W3.kept {w wr wr':World} {p2 p7 p8:Nat} {sg:Bool} {ao:Option Addr} {k cap:Nat} {z:Nat} {aot:Option Addr} {nt capt:Nat} (h:W3 w wr p2 p7 p8 sg ao k cap z aot nt capt) (q:Kept wr wr'):W3 w wr' p2 p7 p8 sg ao k cap z aot nt capt :=
 ⟨h.kp.trans q,h.r2.kept q,h.r7.kept q,h.r8.kept q,h.na.kept q,h.nten.kept q,h.ntb,h.kb,h.p7w,h.ne27,h.ne87⟩
theorem W3.put {w wr:World} {p2 p7 p8:Nat} {sg:Bool} {ao:Option Addr} {k cap:Nat} {z:Nat} {aot:Option Addr} {nt capt:Nat} (h:W3 w wr p2 p7 p8 sg ao k cap z aot nt capt) {sg':Bool} {ao':Option Addr} {k' cap' z':Nat} (hn:D.NIs wr sg' (.slice ao' k' cap') (z':Int)) (hk:k'≤200) :
  W3 w ((wr.setCell ⟨p7,0,none⟩ (.bool sg')).setCell ⟨p7,1,none⟩ (.slice ao' k' cap')) p2 p7 p8 sg' ao' k' cap' z' aot nt capt :=
 ⟨Kept.put2 h.kp h.p7w _ _,h.r2.far h.ne27 _ _,h.r7.set2 _ _,h.r8.far h.ne87 _ _,hn.box2 h.r7.c0 h.r7.c1 _ _,h.nten.box2 h.r7.c0 h.r7.c1 _ _,h.ntb,hk,h.p7w,h.ne27,h.ne87⟩
set_option maxRecDepth 100000 in
set_option maxHeartbeats 32000000 in
theorem rparse_nil (s:ByteArray) (w:World) (hs0:s.size = 0) :
  Calls Tryz.prog 36 #[.string s] w fun e w' => Kept w w'∧e = numE (parseOf s.data.toList):=by
 have hL:s.data.toList = []:=List.eq_nil_of_length_eq_zero (by rw [Array.length_toList]; exact hs0)
 have HN:Hid (parseOf s.data.toList = (0,0,3)):=by show _ = _; rw [hL]; decide
 have hsi:(s.size:Int) = 0:=by omega
 clear hL hs0
 go_enter Tryz.func36,Tryz.ntmps36
 go_upto_region 9 with fail
 have hK:=((Kept.refl w).alloc (.cells #[.int .i64 0,.int .i64 0] 26)).alloc (.cells #[.bool false,.slice none 0 0] 87)
 have hR2:=(Row2.alloc 26 w (.int .i64 0) (.int .i64 0)).kept ((Kept.refl _).alloc (.cells #[.bool false,.slice none 0 0] 87))
 have hR7:=Row2.alloc 87 (w.alloc (.cells #[.int .i64 0,.int .i64 0] 26)) (.bool false) (.slice none 0 0)
 rw [World.size_alloc] at hR7
 generalize (w.alloc (.cells #[.int .i64 0,.int .i64 0] 26)).alloc (.cells #[.bool false,.slice none 0 0] 87) = W at hK hR2 hR7 ⊢
 obtain ⟨p7,hp7⟩:∃ p,p = w.heap.size + 1:=⟨_,rfl⟩
 rw [← hp7] at hR7 ⊢
 obtain ⟨p2,hp2⟩:∃ p,p = w.heap.size:=⟨_,rfl⟩
 rw [← hp2] at hR2 ⊢
 have HP2:Hid (w.heap.size≤p2):=by show _≤_; omega
 have hne:=hid' (show w.heap.size≤p7∧¬ p2 = p7 by omega)
 have hK:=hid' hK
 have hR2:=hid' hR2
 have hR7:=hid' hR7
 clear hp7 hp2
 go_wp2_with fail
 refine (D.small_num 10 _ (by omega) (by omega)).mono ?_
 rintro e w1 ⟨hk1,aot,nt,capt,rfl,hN1,hnt⟩
 go_upto_region 10 with fail
 have hR8:=Row2.alloc 87 w1 (.bool false) (.slice aot nt capt)
 have hKa:=(Kept.refl w1).alloc (.cells #[.bool false,.slice aot nt capt] 87)
 have HW0:Hid (W3 w (w1.alloc (.cells #[.bool false,.slice aot nt capt] 87)) p2 p7 w1.heap.size false none 0 0 0 aot nt capt) :=
  ⟨hK.out.trans (hk1.trans hKa),hR2.out.kept (hk1.trans hKa),hR7.out.kept (hk1.trans hKa),hR8,⟨[],D.Sl.nil _ _ _,⟨D.Bd_nil,.inl rfl,fun _ => rfl⟩,rfl⟩,hN1.kept hKa,hnt,by omega,hne.out.1,hne.out.2,by have:=(hR7.out.kept hk1).lt; omega⟩
 generalize w1.alloc (.cells #[.bool false,.slice aot nt capt] 87) = W1 at HW0 ⊢
 obtain ⟨p8,hp8⟩:∃ p,p = w1.heap.size:=⟨_,rfl⟩
 rw [← hp8] at HW0 ⊢
 clear hp8 hR8 hKa hR2 hR7 hK hk1 hN1 hnt hne
 go_wp2_with fail
 go_loopw [4] (fun vi wr => vi = .int .i64 0∧∃ (sg:Bool) (ao:Option Addr) (k cap:Nat),Hid (W3 w wr p2 p7 p8 sg ao k cap 0 aot nt capt)) (fun _ _ => 0)
 case atStart => exact ⟨rfl,false,none,0,0,HW0.out⟩
 case round =>
  obtain ⟨rfl,sg,ao,k,cap,HI⟩:=hrel
  obtain ⟨r0,r1,r2,r3⟩:=HI.out.r2.all
  go_wp2_with fail
  exact bodyPost_ret (v:=.tuple #[.agg #[.int .i64 0,.int .i64 0],.int .i64 3]) (by simp [results,Tryz.results36,go_sem,r0,r1]) rfl ⟨Kept.put2 HI.out.kp HP2.out _ _,by rw [HN.out]; rfl⟩
set_option maxRecDepth 100000 in
set_option maxHeartbeats 4000000 in
theorem rparse_long (s:ByteArray) (w:World) (hs:s.size≤maxLen) (hl:32 < s.size) :
  Calls Tryz.prog 36 #[.string s] w fun e w' => Kept w w'∧e = numE (parseOf s.data.toList):=by
 unfold maxLen at hs
 have HN:=hid' (parseOf_none (read_no0 (L:=s.data.toList) (by rw [Array.length_toList]; exact hl)))
 have hgt:(32:Int) < (s.size:Int):=by omega
 go_enter Tryz.func36,Tryz.ntmps36
 go_wp2_with fail
 exact bodyPost_ret (v:=.tuple #[.agg #[.int .i64 0,.int .i64 0],.int .i64 3]) (by simp [results,Tryz.results36,go_sem]) rfl ⟨(Kept.refl w).alloc _,by rw [HN.out]; rfl⟩
end Q
end Go.Proofs.YtembglnonhlnkaaGreatDoor
