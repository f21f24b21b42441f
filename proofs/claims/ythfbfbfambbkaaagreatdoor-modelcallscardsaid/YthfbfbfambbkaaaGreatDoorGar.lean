/- Lemmas. -/
import Derived.Test.YthfbfbfambbkaaaGreatDoorNscal
import Derived.Test.YthfbfbfambbkaaaGreatDoorNval
import Derived.Test.YthfbfbfambbkaaaGreatDoorGam
import Derived.Test.YthfbfbfambbkaaaGreatDoorGaq
import Derived.Test.YthfbfbfambbkaaaGreatDoorGao
import Derived.Test.YthfbfbfambbkaaaGreatDoorRwhole
import Derived.Test.YthfbfbfambbkaaaGreatDoorGah
import Derived.Test.YthfbfbfambbkaaaGreatDoorRset2
import Derived.Test.YthfbfbfambbkaaaGreatDoorGap
import Derived.Test.YthfbfbfambbkaaaGreatDoorGag
import Derived.Test.YthfbfbfambbkaaaGreatDoorVb
namespace Go.Proofs.YthfbfbfambbkaaaGreatDoor
open Go.RowKit
namespace Q
theorem okN_bd {m x:Int} (h:okN m x = true):-999999999<=m/\m<=999999999/\-18<=x/\x<=9:=by
 rcases okN_iff.1 h with ⟨rfl,rfl⟩ | ⟨_,h1,h2,_,h4,h5⟩
 ·
  decide
 ·
  exact ⟨h1,h2,h4,h5⟩
def Scl (m x N:Int) (D:Nat):Prop:=0 < D/\Nat.Coprime N.natAbs D/\N * (10 ^ (-x).toNat:Nat) = m * (10 ^ x.toNat:Nat) * D
def GridIs (e:Ending) (m x:Int):Prop :=
 (okN m x = false/\e = .returned (.tuple #[.int .i64 0,.int .i64 30])) ∨ (okN m x = true/\∃ N D,Scl m (x + 9) N D/\e = .returned (.tuple #[.int .i64 (F.gridV (F.near N D)),.int .i64 (F.gridE (F.near N D))]))
end Q
namespace V
open Q (okN okN_bd Scl)
def U (m x:Int):Int:=m * ((10 ^ (x + 18).toNat:Nat):Int)
theorem scl_u {m x N:Int} {D:Nat} (hx:-18<=x) (h:Scl m x N D):N * ((10 ^ 18:Nat):Int) = U m x * D:=by
 obtain ⟨_,_,e⟩:=h
 unfold U
 by_cases h0:0<=x
 ·
  have e1:(-x).toNat = 0:=by omega
  have e2:(x + 18).toNat = x.toNat + 18:=by omega
  rw [e1] at e
  rw [e2,Nat.pow_add,Int.natCast_mul,<- Int.mul_assoc,Int.mul_right_comm (m * _),<- e]
  simp
 ·
  have e1:x.toNat = 0:=by omega
  have e2:10 ^ 18 = 10 ^ (-x).toNat * 10 ^ (x + 18).toNat:=by rw [<- Nat.pow_add]; congr 1; omega
  rw [e1] at e
  rw [e2,Int.natCast_mul,<- Int.mul_assoc,e]
  simp only [Nat.pow_zero,Int.natCast_one,Int.mul_one]
  rw [Int.mul_right_comm]
theorem u_bd {m x:Int} (h:okN m x = true):(U m x).natAbs<=10 ^ 36:=by
 obtain ⟨h1,h2,h3,h4⟩:=okN_bd h
 unfold U
 rw [Int.natAbs_mul,Int.natAbs_natCast]
 have e1:m.natAbs<=10 ^ 9:=by omega
 have e2:10 ^ (x + 18).toNat<=10 ^ 27:=Nat.pow_le_pow_right (by decide) (by omega)
 calc m.natAbs * 10 ^ (x + 18).toNat<=10 ^ 9 * 10 ^ 27:=Nat.mul_le_mul e1 e2
  _ = 10 ^ 36:=by decide
theorem low_bd {N A:Int} {D S:Nat} (hc:Nat.Coprime N.natAbs D) (hS:0 < S) (h:N * (S:Int) = A * D):N.natAbs<=A.natAbs/\D<=S:=by
 have e:=congrArg Int.natAbs h
 rw [Int.natAbs_mul,Int.natAbs_mul,Int.natAbs_natCast,Int.natAbs_natCast] at e
 constructor
 ·
  have hd:N.natAbs ∣ A.natAbs:=hc.dvd_of_dvd_mul_right (by rw [<- e]; exact Nat.dvd_mul_right _ _)
  rcases Nat.eq_zero_or_pos A.natAbs with h0 | h0
  ·
   rw [h0,Nat.zero_mul] at e
   rcases Nat.mul_eq_zero.1 e with h1 | h1
   ·
    omega
   ·
    omega
  ·
   exact Nat.le_of_dvd h0 hd
 ·
  have hd:D ∣ S:=hc.symm.dvd_of_dvd_mul_left (by rw [e]; exact Nat.dvd_mul_left _ _)
  exact Nat.le_of_dvd hS hd
theorem sum_rt {xA xB N a b:Int} {yA yB D S:Nat} (h:F.IsSum xA yA xB yB N D) (hA:xA * (S:Int) = a * yA) (hB:xB * (S:Int) = b * yB) (pA:0 < yA) (pB:0 < yB):N * (S:Int) = (a + b) * D:=by
 have e:=h.eq
 have pp:((yA:Int) * yB) ≠ 0:=Int.mul_ne_zero (by omega) (by omega)
 apply Int.eq_of_mul_eq_mul_right pp
 calc N * S * (yA * yB) = N * (yA * yB) * S:=Int.mul_right_comm _ _ _
  _ = (xA * yB + xB * yA) * D * S:=by rw [e]
  _ = (xA * S * yB + xB * S * yA) * D:=by simp only [Int.add_mul]; simp only [Int.mul_assoc,Int.mul_comm,Int.mul_left_comm]
  _ = (a * yA * yB + b * yB * yA) * D:=by rw [hA,hB]
  _ = (a + b) * D * (yA * yB):=by simp only [Int.add_mul]; simp only [Int.mul_assoc,Int.mul_comm,Int.mul_left_comm]
theorem prod_rt {xA xB N a b:Int} {yA yB D S T:Nat} (h:F.IsProd xA yA xB yB N D) (hA:xA * (S:Int) = a * yA) (hB:xB * (T:Int) = b * yB) (pA:0 < yA) (pB:0 < yB):N * ((S * T:Nat):Int) = (a * b) * D:=by
 have e:=h.eq
 have pp:((yA:Int) * yB) ≠ 0:=Int.mul_ne_zero (by omega) (by omega)
 apply Int.eq_of_mul_eq_mul_right pp
 rw [Int.natCast_mul]
 calc N * ((S:Int) * T) * (yA * yB) = N * (yA * yB) * (S * T):=Int.mul_right_comm _ _ _
  _ = xA * xB * D * (S * T):=by rw [e]
  _ = (xA * S) * (xB * T) * D:=by simp only [Int.mul_assoc,Int.mul_comm,Int.mul_left_comm]
  _ = (a * yA) * (b * yB) * D:=by rw [hA,hB]
  _ = a * b * D * (yA * yB):=by simp only [Int.mul_assoc,Int.mul_comm,Int.mul_left_comm]
end V
namespace Q
def ValIs (B:Nat) (w':World) (e:Ending) (m x:Int):Prop :=
 (okN m x = false/\e = .returned (.tuple #[.agg #[.bool false,.slice none 0 0,.bool false,.slice none 0 0],.int .i64 30])) ∨ (okN m x = true/\∃ v N D,e = .returned (.tuple #[v,.int .i64 0])/\RQ B w' v N D/\Scl m x N D)
set_option maxRecDepth 100000 in
set_option maxHeartbeats 4000000 in
theorem value_any (m x:Int) (w:World):Calls Tryz.prog 22 #[.agg #[.int .i64 m,.int .i64 x]] w fun e w' => Kept w w'/\ValIs w.heap.size w' e m x:=by
 go_enter Tryz.func22,Tryz.ntmps22
 go_upto_region 1 with fail
 have hK:=((Kept.refl w).alloc (.cells #[.int .i64 m,.int .i64 x] 48)).alloc (.cells #[.bool false,.slice none 0 0,.bool false,.slice none 0 0] 29)
 have hR1:=(Row2.alloc 48 w (.int .i64 m) (.int .i64 x)).kept ((Kept.refl _).alloc (.cells #[.bool false,.slice none 0 0,.bool false,.slice none 0 0] 29))
 have hR2:=F.RRow.alloc (w.alloc (.cells #[.int .i64 m,.int .i64 x] 48)) (.bool false) (.slice none 0 0) (.bool false) (.slice none 0 0)
 rw [World.size_alloc] at hR2
 generalize (w.alloc (.cells #[.int .i64 m,.int .i64 x] 48)).alloc (.cells #[.bool false,.slice none 0 0,.bool false,.slice none 0 0] 29) = W at hK hR1 hR2 ⊢
 obtain ⟨p2,hp2⟩:∃ p,p = w.heap.size + 1:=⟨_,rfl⟩
 rw [<- hp2] at hR2 ⊢
 obtain ⟨p1,hp1⟩:∃ p,p = w.heap.size:=⟨_,rfl⟩
 rw [<- hp1] at hR1 ⊢
 have HP:Hid (w.heap.size<=p2):=by show _<=_; omega
 have HK:=hid' hK
 have HR1:=hid' hR1
 have HR2:=hid' hR2
 obtain ⟨q0,q1,q2,q3⟩:=hR1.all
 clear hp1 hp2 hK hR1 hR2
 go_wp2_with fail
 refine (Valid_any m x _).mono ?_
 rintro e w1 ⟨hk1,rfl⟩
 have HK1:=hid' (HK.out.trans hk1)
 have HR1:=hid' (HR1.out.kept hk1)
 have HR2:=hid' (HR2.out.kept hk1)
 clear hk1 q0 q1 q2 q3
 by_cases ho:okN m x = true
 ·
  have hb:=okN_bd ho
  rw [ho]
  have HO:=hid' ho
  clear ho
  obtain ⟨q0,q1,q2,q3⟩:=HR1.out.all
  go_wp2_with fail
  refine (scaled_any m x (by omega) (by omega) (by omega) (by omega) _).mono ?_
  rintro e w2 ⟨hk2,v,N,D,rfl,hq,he⟩
  have HS:Hid (Scl m x N D):=⟨hq.low.1,hq.low.2,he⟩
  have HQ:=hid' (hq.mono HK1.out.size)
  obtain ⟨s,ao,ap,k,c,k',c',l,l',rfl,_⟩:=hq
  have HK2:=hid' (HK1.out.trans hk2)
  have hR4:=HR2.out.kept hk2
  have z0:=hR4.c0
  have z1:=hR4.c1
  have z2:=hR4.c2
  have z3:=hR4.c3
  have f0:=hR4.fz 0
  have f1:=hR4.fz 1
  have f2:=hR4.fz 2
  have f3:=hR4.fz 3
  have H4:=hid' hR4
  clear he hk2 q0 q1 q2 q3 hR4
  go_wp2_with fail
  exact bodyPost_ret (v:=.tuple #[.agg #[.bool s,.slice ao k c,.bool false,.slice ap k' c'],.int .i64 0]) (by simp [results,Tryz.results22,go_sem,z0,z1,z2,z3]) rfl ⟨Kept.put4 HK2.out HP.out _ _ _ _,.inr ⟨HO.out,_,N,D,rfl,RQ.put4 HQ.out H4.out _ _ _ _,HS.out⟩⟩
 ·
  have ho:okN m x = false:=by simpa using ho
  rw [ho]
  have HO:=hid' ho
  have z0:=HR2.out.c0
  have z1:=HR2.out.c1
  have z2:=HR2.out.c2
  have z3:=HR2.out.c3
  have f0:=HR2.out.fz 0
  have f1:=HR2.out.fz 1
  have f2:=HR2.out.fz 2
  have f3:=HR2.out.fz 3
  clear ho
  go_wp2_with fail
  exact bodyPost_ret (v:=.tuple #[.agg #[.bool false,.slice none 0 0,.bool false,.slice none 0 0],.int .i64 30]) (by simp [results,Tryz.results22,go_sem,z0,z1,z2,z3]) rfl ⟨Kept.put4 HK1.out HP.out _ _ _ _,.inl ⟨HO.out,rfl⟩⟩
def CmpIs (e:Ending) (m x m' x':Int):Prop :=
 (¬ (okN m x = true/\okN m' x' = true)/\e = .returned (.tuple #[.int .i64 0,.int .i64 30])) ∨ ((okN m x = true/\okN m' x' = true)/\∃ (N:Int) (D:Nat) (N':Int) (D':Nat),Scl m x N D/\Scl m' x' N' D'/\e = .returned (.tuple #[.int .i64 (isgn (N * D') (N' * D)),.int .i64 0]))
set_option maxRecDepth 100000 in
set_option maxHeartbeats 8000000 in
theorem cmp_any (m x m' x':Int) (w:World):Calls Tryz.prog 87 #[.agg #[.int .i64 m,.int .i64 x],.agg #[.int .i64 m',.int .i64 x']] w fun e w' => Kept w w'/\CmpIs e m x m' x':=by
 go_enter Tryz.func87,Tryz.ntmps87
 go_upto_region 1 with fail
 have hK:=((Kept.refl w).alloc (.cells #[.int .i64 m,.int .i64 x] 48)).alloc (.cells #[.int .i64 m',.int .i64 x'] 48)
 have hR2:=(Row2.alloc 48 w (.int .i64 m) (.int .i64 x)).kept ((Kept.refl _).alloc (.cells #[.int .i64 m',.int .i64 x'] 48))
 have hR3:=Row2.alloc 48 (w.alloc (.cells #[.int .i64 m,.int .i64 x] 48)) (.int .i64 m') (.int .i64 x')
 rw [World.size_alloc] at hR3
 generalize (w.alloc (.cells #[.int .i64 m,.int .i64 x] 48)).alloc (.cells #[.int .i64 m',.int .i64 x'] 48) = W at hK hR2 hR3 ⊢
 obtain ⟨p3,hp3⟩:∃ p,p = w.heap.size + 1:=⟨_,rfl⟩
 rw [<- hp3] at hR3 ⊢
 obtain ⟨p2,hp2⟩:∃ p,p = w.heap.size:=⟨_,rfl⟩
 rw [<- hp2] at hR2 ⊢
 have HK:=hid' hK
 have HR2:=hid' hR2
 have HR3:=hid' hR3
 obtain ⟨q0,q1,q2,q3⟩:=hR2.all
 clear hp2 hp3 hK hR2 hR3
 go_wp2_with fail
 refine (Valid_any m x _).mono ?_
 rintro e w1 ⟨hk1,rfl⟩
 have HK1:=hid' hk1
 clear hk1 q0 q1 q2 q3
 by_cases ho:okN m x = true
 ·
  have hb:=okN_bd ho
  rw [ho]
  have HO:=hid' ho
  clear ho
  obtain ⟨q0,q1,q2,q3⟩:=(HR3.out.kept HK1.out).all
  go_wp2_with fail
  refine (Valid_any m' x' _).mono ?_
  rintro e w2 ⟨hk2,rfl⟩
  have HK2:=hid' (HK1.out.trans hk2)
  clear hk2 q0 q1 q2 q3
  by_cases ho':okN m' x' = true
  ·
   have hb':=okN_bd ho'
   rw [ho']
   have HO':=hid' ho'
   clear ho'
   go_upto_region 3 with fail
   obtain ⟨q0,q1,q2,q3⟩:=(HR2.out.kept HK2.out).all
   obtain ⟨r0,r1,r2,r3⟩:=(HR3.out.kept HK2.out).all
   go_region_held3 (fun w' => w'.cell? ⟨p2,0,none⟩ = some (.int .i64 m)/\w'.cell? ⟨p2,1,none⟩ = some (.int .i64 x)/\w'.cell? ⟨p3,0,none⟩ = some (.int .i64 m')/\w'.cell? ⟨p3,1,none⟩ = some (.int .i64 x')) (go_keep) (first
    | (go_at_call_of 55 (Value.int .i64 m); refine (scaled_any m x (by omega) (by omega) (by omega) (by omega) _).mono ?_; rintro e w3 ⟨hk3,v3,N3,D3,rfl,hq3,he3⟩; have HS3:Hid (Scl m x N3 D3):=⟨hq3.low.1,hq3.low.2,he3⟩; obtain ⟨s,ao,ap,k,c,k',c',l,l',rfl,n1,n2,r,rfl,rfl⟩:=hq3; have H3:=hid' (And.intro n1.sl (And.intro n2.sl r)); have K3:=HK2.out.trans ((Kept.refl w2).drew.trans hk3); have a0:=(HR2.out.kept K3).c0; have a1:=(HR2.out.kept K3).c1; have a2:=(HR3.out.kept K3).c0; have a3:=(HR3.out.kept K3).c1; clear n1 n2 r he3)
    | (go_at_call_of 55 (Value.int .i64 m'); refine (scaled_any m' x' (by omega) (by omega) (by omega) (by omega) _).mono ?_; rintro e w4 ⟨hk4,v4,N4,D4,rfl,hq4,he4⟩; have HS4:Hid (Scl m' x' N4 D4):=⟨hq4.low.1,hq4.low.2,he4⟩; obtain ⟨s4,ao4,ap4,k4,c4,k4',c4',l4,l4',rfl,n1,n2,r,rfl,rfl⟩:=hq4; have H4:=hid' (And.intro n1.sl (And.intro n2.sl (And.intro r hk4))); have K4:=K3.trans hk4; have b0:=(HR2.out.kept K4).c0; have b1:=(HR2.out.kept K4).c1; have b2:=(HR3.out.kept K4).c0; have b3:=(HR3.out.kept K4).c1; clear n1 n2 r he4)
    | (go_at_call 27; refine (F.Cmp_ok s false s4 false ao ap ao4 ap4 k c k' c' k4 c4 k4' c4' l l' l4 l4' _ (H3.out.1.kept H4.out.2.2.2) (H3.out.2.1.kept H4.out.2.2.2) H4.out.1 H4.out.2.1 H3.out.2.2 H4.out.2.2.1).mono ?_; rintro e w5 ⟨rfl,hk5⟩; have K5:=K4.trans hk5; have d0:=(HR2.out.kept K5).c0; have d1:=(HR2.out.kept K5).c1; have d2:=(HR3.out.kept K5).c0; have d3:=(HR3.out.kept K5).c1))
   have HK5:=hid' (HK.out.trans K5)
   clear K3 K4 K5 hk3 hk4 hk5 q0 q1 q2 q3 r0 r1 r2 r3 a0 a1 a2 a3 b0 b1 b2 b3 d0 d1 d2 d3
   generalize hgi:isgn (M.int s l * M.val l4') (M.int s4 l4 * M.val l') = gi
   have HGI:=hid' hgi
   clear hgi
   go_wp2
   go_ret2
   exact ⟨HK5.out,.inr ⟨⟨HO.out,HO'.out⟩,_,_,_,_,HS3.out,HS4.out,by rw [HGI.out]; rfl⟩⟩
  ·
   have ho':okN m' x' = false:=by simpa using ho'
   rw [ho']
   have HO':=hid' ho'
   clear ho'
   go_wp2
   go_ret2
   exact ⟨HK.out.trans HK2.out,.inl ⟨fun hh => absurd (HO'.out.symm.trans hh.2) (by decide),rfl⟩⟩
 ·
  have ho:okN m x = false:=by simpa using ho
  rw [ho]
  have HO:=hid' ho
  clear ho
  go_wp2
  go_ret2
  exact ⟨HK.out.trans HK1.out,.inl ⟨fun hh => absurd (HO.out.symm.trans hh.1) (by decide),rfl⟩⟩
end Q
namespace V
open Q (okN okN_bd Scl RQ hid')
def RT (B:Nat) (w:World) (v:Value) (A:Int) (S:Nat):Prop:=∃ N D,RQ B w v N D/\N * (S:Int) = A * D
theorem RT.kept {B:Nat} {w w':World} {v:Value} {A:Int} {S:Nat} (h:RT B w v A S) (k:Kept w w'):RT B w' v A S:=by
 obtain ⟨N,D,h1,h2⟩:=h
 exact ⟨N,D,h1.kept k,h2⟩
theorem RT.mono {B B':Nat} {w:World} {v:Value} {A:Int} {S:Nat} (h:RT B w v A S) (k:B'<=B):RT B' w v A S:=by
 obtain ⟨N,D,h1,h2⟩:=h
 exact ⟨N,D,h1.mono k,h2⟩
theorem RT.scale {B:Nat} {w:World} {v:Value} {A:Int} {S:Nat} (h:RT B w v A S) (c:Nat):RT B w v (A * c) (S * c):=by
 obtain ⟨N,D,h1,h2⟩:=h
 refine ⟨N,D,h1,?_⟩
 rw [Int.natCast_mul,<- Int.mul_assoc,h2,Int.mul_right_comm]
theorem RT.shape {B:Nat} {w:World} {v:Value} {A:Int} {S:Nat} (h:RT B w v A S):∃ (s:Bool) (ao ap:Option Addr) (k c k' c':Nat),v = .agg #[.bool s,.slice ao k c,.bool false,.slice ap k' c']:=by
 obtain ⟨N,D,⟨s,ao,ap,k,c,k',c',l,l',rfl,_⟩,_⟩:=h
 exact ⟨_,_,_,_,_,_,_,rfl⟩
theorem hW:(10:Nat) ^ 200 < M.W72:=by unfold M.W72; decide
theorem rt_of_sum {B:Nat} {w:World} {e:Ending} {N A:Int} {D S:Nat} (h:F.SumIs B w e N D) (hp:0 < D) (hc:Nat.Coprime N.natAbs D) (hS:0 < S) (he:N * (S:Int) = A * D) (hA:A.natAbs<=10 ^ 200) (hB:S<=10 ^ 200) :
  ∃ u,e = .returned (.tuple #[u,.int .i64 0])/\RT B w u A S:=by
 have hb:=low_bd hc hS he
 have hw:=hW
 rcases h with ⟨u,rfl,hu⟩ | ⟨_,hno⟩
 ·
  exact ⟨u,rfl,N,D,RQ.of hu hp hc,he⟩
 ·
  exact absurd ⟨Nat.lt_of_le_of_lt (Nat.le_trans hb.1 hA) hw,Nat.lt_of_le_of_lt (Nat.le_trans hb.2 hB) hw⟩ hno
theorem rt_add {v v':Value} {A A':Int} {S:Nat} {B B':Nat} (w:World) (h:RT B w v A S) (h':RT B' w v' A' S) (hS:0 < S) (hA:(A + A').natAbs<=10 ^ 200) (hB:S<=10 ^ 200) :
  Calls Tryz.prog 58 #[v,v'] w fun e w' => Kept w w'/\∃ u,e = .returned (.tuple #[u,.int .i64 0])/\RT w.heap.size w' u (A + A') S:=by
 obtain ⟨N,D,q,e1⟩:=h
 obtain ⟨N',D',q',e2⟩:=h'
 have p1:=q.low.1
 have p2:=q'.low.1
 obtain ⟨s,ao,ap,k,c,k',c',l,l',rfl,n1,n2,r,rfl,rfl⟩:=q
 obtain ⟨s',ao',ap',k1,c1,k1',c1',l1,l1',rfl,n1',n2',r',rfl,rfl⟩:=q'
 refine (F.Add_ok s false s' false ao ap ao' ap' k c k' c' k1 c1 k1' c1' l l' l1 l1' w n1.sl n2.sl n1'.sl n2'.sl r r').mono ?_
 rintro e w' ⟨hk,X,Y,hP,hQ⟩
 exact ⟨hk,rt_of_sum hQ hP.pos hP.low hS (sum_rt hP e1 e2 p1 p2) hA hB⟩
theorem rt_sub {v v':Value} {A A':Int} {S:Nat} {B B':Nat} (w:World) (h:RT B w v A S) (h':RT B' w v' A' S) (hS:0 < S) (hA:(A - A').natAbs<=10 ^ 200) (hB:S<=10 ^ 200) :
  Calls Tryz.prog 112 #[v,v'] w fun e w' => Kept w w'/\∃ u,e = .returned (.tuple #[u,.int .i64 0])/\RT w.heap.size w' u (A - A') S:=by
 obtain ⟨N,D,q,e1⟩:=h
 obtain ⟨N',D',q',e2⟩:=h'
 have p1:=q.low.1
 have p2:=q'.low.1
 obtain ⟨s,ao,ap,k,c,k',c',l,l',rfl,n1,n2,r,rfl,rfl⟩:=q
 obtain ⟨s',ao',ap',k1,c1,k1',c1',l1,l1',rfl,n1',n2',r',rfl,rfl⟩:=q'
 refine (F.Sub_ok s false s' false ao ap ao' ap' k c k' c' k1 c1 k1' c1' l l' l1 l1' w n1.sl n2.sl n1'.sl n2'.sl r r').mono ?_
 rintro e w' ⟨hk,X,Y,hP,hQ⟩
 have e3:-M.int s' l1 * (S:Int) = -A' * (M.val l1':Int):=by rw [Int.neg_mul,e2,Int.neg_mul]
 exact ⟨hk,rt_of_sum hQ hP.pos hP.low hS (by rw [Int.sub_eq_add_neg]; exact sum_rt hP e1 e3 p1 p2) hA hB⟩
theorem rt_mul {v v':Value} {A A':Int} {S T:Nat} {B B':Nat} (w:World) (h:RT B w v A S) (h':RT B' w v' A' T) (hS:0 < S) (hT:0 < T) (hA:(A * A').natAbs<=10 ^ 200) (hB:S * T<=10 ^ 200) :
  Calls Tryz.prog 23 #[v,v'] w fun e w' => Kept w w'/\∃ u,e = .returned (.tuple #[u,.int .i64 0])/\RT w.heap.size w' u (A * A') (S * T):=by
 obtain ⟨N,D,q,e1⟩:=h
 obtain ⟨N',D',q',e2⟩:=h'
 have p1:=q.low.1
 have p2:=q'.low.1
 obtain ⟨s,ao,ap,k,c,k',c',l,l',rfl,n1,n2,r,rfl,rfl⟩:=q
 obtain ⟨s',ao',ap',k1,c1,k1',c1',l1,l1',rfl,n1',n2',r',rfl,rfl⟩:=q'
 refine (F.Mul_ok s false s' false ao ap ao' ap' k c k' c' k1 c1 k1' c1' l l' l1 l1' w n1.sl n2.sl n1'.sl n2'.sl r r').mono ?_
 rintro e w' ⟨hk,X,Y,hP,hQ⟩
 exact ⟨hk,rt_of_sum hQ hP.pos hP.low (Nat.mul_pos hS hT) (prod_rt hP e1 e2 p1 p2) hA hB⟩
theorem rt_value (m x:Int) (h:okN m x = true) (w:World) :
  Calls Tryz.prog 22 #[.agg #[.int .i64 m,.int .i64 x]] w fun e w' => Kept w w'/\∃ u,e = .returned (.tuple #[u,.int .i64 0])/\RT w.heap.size w' u (U m x) (10 ^ 18):=by
 refine (Q.value_any m x w).mono ?_
 rintro e w' ⟨hk,⟨h0,_⟩ | ⟨_,v,N,D,rfl,hq,hs⟩⟩
 ·
  rw [h] at h0; exact absurd h0 (by decide)
 ·
  exact ⟨hk,v,rfl,N,D,hq,scl_u (okN_bd h).2.2.1 hs⟩
end V
namespace Q
structure P2 (w wr:World) (p2 p3:Nat) (sg:Bool) (ao:Option Addr) (k cap:Nat) (z:Int):Prop where
 kp:Kept w wr
 r2:Row2 71 wr p2 (.bool false) (.slice none 0 0)
 r3:Row2 71 wr p3 (.bool sg) (.slice ao k cap)
 na:D.NIs wr sg (.slice ao k cap) z
 p2w:w.heap.size<=p2
 p3w:w.heap.size<=p3
 ne:¬ p2 = p3
theorem P2.kept {w wr wr':World} {p2 p3:Nat} {sg:Bool} {ao:Option Addr} {k cap:Nat} {z:Int} (h:P2 w wr p2 p3 sg ao k cap z) (q:Kept wr wr'):P2 w wr' p2 p3 sg ao k cap z :=
 ⟨h.kp.trans q,h.r2.kept q,h.r3.kept q,h.na.kept q,h.p2w,h.p3w,h.ne⟩
theorem P2.put {w wr:World} {p2 p3:Nat} {sg:Bool} {ao:Option Addr} {k cap:Nat} {z:Int} (h:P2 w wr p2 p3 sg ao k cap z) {sg':Bool} {ao':Option Addr} {k' cap':Nat} {z':Int} (hn:D.NIs wr sg' (.slice ao' k' cap') z') :
  P2 w ((wr.setCell ⟨p3,0,none⟩ (.bool sg')).setCell ⟨p3,1,none⟩ (.slice ao' k' cap')) p2 p3 sg' ao' k' cap' z' :=
 ⟨Kept.put2 h.kp h.p3w _ _,h.r2.far h.ne _ _,h.r3.set2 _ _,hn.box2 h.r3.c0 h.r3.c1 _ _,h.p2w,h.p3w,h.ne⟩
def NE (w:World) (e:Ending) (z:Int) (kk:Nat):Prop:=∃ s ao k cap,e = .returned (.agg #[.bool s,.slice ao k cap])/\D.NIs w s (.slice ao k cap) z/\k<=kk
def pw (n:Nat):Int:=((10 ^ n:Nat):Int)
theorem pw_succ (n:Nat):pw (n + 1) = pw n * 10:=by unfold pw; rw [Nat.pow_succ,Int.natCast_mul]; rfl
theorem pw_pos (n:Nat):0 < pw n:=by unfold pw; have:=Nat.pow_pos (n:=n) (show 0 < 10 by decide); omega
set_option maxRecDepth 100000 in
set_option maxHeartbeats 8000000 in
theorem rpower_any (n:Nat) (hn:n<=100) (w:World) :
  Calls Tryz.prog 81 #[.int .i64 (n:Int)] w fun e w' => Kept w w'/\NE w' e (pw n) (n + 1):=by
 go_enter Tryz.func81,Tryz.ntmps81
 go_wp2_with fail
 refine (D.small_num 1 _ (by omega) (by omega)).mono ?_
 rintro e w1 ⟨hk1,ao1,k1,c1,rfl,n1,l1⟩
 go_wp2_with fail
 have hA:Kept w1 (w1.alloc (.cells #[.bool false,.slice ao1 k1 c1] 71)):=(Kept.refl w1).alloc _
 have hlt:w.heap.size < w1.heap.size:=by have:=hk1.size; simp at this; omega
 have hP:P2 w (w1.alloc (.cells #[.bool false,.slice ao1 k1 c1] 71)) w.heap.size w1.heap.size false ao1 k1 c1 1 :=
  ⟨(((Kept.refl w).alloc _).trans hk1).trans hA,((Row2.alloc 71 w (.bool false) (.slice none 0 0)).kept hk1).kept hA,Row2.alloc 71 w1 (.bool false) (.slice ao1 k1 c1),n1.kept hA,Nat.le_refl _,by omega,by omega⟩
 generalize w1.alloc (.cells #[.bool false,.slice ao1 k1 c1] 71) = W at hP hA ⊢
 obtain ⟨p3,hp3⟩:∃ p,p = w1.heap.size:=⟨_,rfl⟩
 rw [<- hp3] at hP ⊢
 obtain ⟨p2,hp2⟩:∃ p,p = w.heap.size:=⟨_,rfl⟩
 rw [<- hp2] at hP ⊢
 have HP:=hid' hP
 clear hp2 hp3 hP hA hlt hk1 n1
 go_loopw [4] (fun vi wr => ∃ (j:Nat) (sg:Bool) (ao:Option Addr) (k cap:Nat),j<=n/\vi = .int .i64 (j:Int)/\Hid (P2 w wr p2 p3 sg ao k cap (pw j)/\k<=j + 1)) (fun vi _ => n - (intOf vi).toNat)
 case atStart => exact ⟨0,_,_,_,_,Nat.zero_le _,rfl,HP.out,by omega⟩
 case round =>
  obtain ⟨j,sg,ao,k,cap,hj,rfl,HI⟩:=hrel
  obtain ⟨q0,q1,q2,q3⟩:=HI.out.1.r3.all
  by_cases hlt:j < n
  ·
   have hji:(j:Int) < (n:Int):=by omega
   go_wp2_with fail
   go_region_with (first
    | (go_at_call 53; refine (D.small_num 10 _ (by omega) (by omega)).mono ?_; rintro e wC ⟨hkC,aoC,kC,cC,rfl,nC,lC⟩; have HC:=hid' (And.intro nC lC); have KC:=(Kept.refl wr).drew.trans hkC; obtain ⟨g0,g1,g2,g3⟩:=(HI.out.1.kept KC).r3.all; clear nC lC hkC)
    | (go_at_call 78; refine (D.Times_any sg false ao aoC k kC cap cC _ _ _ (HI.out.1.na.kept KC) HC.out.1 (by have:=HI.out.2; omega) (by have:=HC.out.2; omega)).mono ?_; rintro e wE ⟨hkE,sE,aoE,kE,cE,rfl,nE,lE⟩; have HE:=hid' (And.intro nE lE); have KE:=KC.trans hkE; obtain ⟨j0,j1,j2,j3⟩:=(HI.out.1.kept KE).r3.all; clear nE lE hkE))
   all_goals
    have HWE:=hid' (HI.out.1.kept KE)
    clear KC KE
    go_wp2_with fail
    go_roundw
    case rel => exact ⟨j + 1,sE,aoE,kE,cE,by omega,by go_num,HWE.out.put (by rw [pw_succ]; exact HE.out.1),by have h1:=HE.out.2; have h2:=HI.out.2; have h3:=HC.out.2; omega⟩
    case measure => show n - ((j:Int) + 1).toNat < n - (j:Int).toNat; omega
  ·
   obtain rfl:j = n:=by omega
   have hji:¬ (j:Int) < (j:Int):=by omega
   obtain ⟨d0,d1,d2,d3⟩:=HI.out.1.r2.all
   go_wp2_with fail
   refine bodyPost_ret (v:=.agg #[.bool sg,.slice ao k cap]) (by simp [results,Tryz.results81,go_sem,d0,d1]) rfl ⟨Kept.put2 HI.out.1.kp HI.out.1.p2w _ _,sg,ao,k,cap,rfl,HI.out.1.na.box2 HI.out.1.r2.c0 HI.out.1.r2.c1 _ _,HI.out.2⟩
def FE (w:World) (e:Ending) (m x:Int):Prop:=∃ (v:Value) (N:Int) (D:Nat),e = .returned v/\F.FIs w v N (D:Int) 110 110/\Scl m x N D
theorem rpower_int (z:Int) (h0:0<=z) (h1:z<=100) (w:World):Calls Tryz.prog 81 #[.int .i64 z] w fun e w' => Kept w w'/\∃ s ao k cap,e = .returned (.agg #[.bool s,.slice ao k cap])/\D.NIs w' s (.slice ao k cap) (pw z.toNat)/\k<=101:=by
 obtain ⟨n,rfl⟩:=Int.eq_ofNat_of_zero_le h0
 refine (rpower_any n (by omega) w).mono ?_
 rintro e w' ⟨hk,s,ao,k,cap,rfl,hn,hl⟩
 exact ⟨hk,s,ao,k,cap,rfl,hn,by omega⟩
theorem scl_low {m x N D:Int} (hx:x < 0) (h:F.Low m (pw (-x).toNat) N D):Scl m x N D.toNat:=by
 refine ⟨by have:=h.pos; omega,?_,?_⟩
 ·
  show Nat.gcd _ _ = 1
  rw [show D.toNat = D.natAbs by have:=h.pos; omega]
  exact h.low
 ·
  rw [show x.toNat = 0 by omega,show ((D.toNat:Nat):Int) = D by have:=h.pos; omega]
  have:=h.eq
  unfold pw at this
  rw [this]
  simp
theorem scl_whole {m x:Int} (hx:0<=x):Scl m x (m * pw x.toNat) 1:=by
 refine ⟨by decide,by show Nat.gcd _ _ = 1; simp,?_⟩
 rw [show (-x).toNat = 0 by omega]
 unfold pw
 simp
set_option maxRecDepth 100000 in
set_option maxHeartbeats 8000000 in
theorem of_neg (m x:Int) (h1:-9223372036854775808<=m) (h2:m<=9223372036854775807) (hx:x < 0) (hx1:-50<=x) (w:World) :
  Calls Tryz.prog 42 #[.agg #[.int .i64 m,.int .i64 x]] w fun e w' => Kept w w'/\FE w' e m x:=by
 have HM:=hid' (And.intro h1 h2)
 clear h1 h2
 have hwr:IntKind.i64.wrap (-x) = -x:=wrap_i64' (by omega) (by omega)
 go_enter Tryz.func42,Tryz.ntmps42
 go_upto_region 1 with fail
 have r1:=(Row2.alloc 48 w (.int .i64 m) (.int .i64 x)).kept ((Kept.refl _).alloc (.cells #[.bool false,.slice none 0 0,.bool false,.slice none 0 0] 73))
 have r2:=F.FRow.alloc (w.alloc (.cells #[.int .i64 m,.int .i64 x] 48)) (.bool false) (.slice none 0 0) (.bool false) (.slice none 0 0)
 have hK:=((Kept.refl w).alloc (.cells #[.int .i64 m,.int .i64 x] 48)).alloc (.cells #[.bool false,.slice none 0 0,.bool false,.slice none 0 0] 73)
 simp only [World.size_alloc] at r2
 generalize (w.alloc (.cells #[.int .i64 m,.int .i64 x] 48)).alloc (.cells #[.bool false,.slice none 0 0,.bool false,.slice none 0 0] 73) = W at r1 r2 hK ⊢
 obtain ⟨p2,hp2⟩:∃ p,p = w.heap.size + 1:=⟨_,rfl⟩
 rw [<- hp2] at r2 ⊢
 obtain ⟨p1,hp1⟩:∃ p,p = w.heap.size:=⟨_,rfl⟩
 rw [<- hp1] at r1 ⊢
 have HP:Hid (w.heap.size<=p2):=by show _<=_; omega
 have n21:¬ p2 = p1:=by omega
 clear hp1 hp2
 have HR:=hid' (And.intro r1 (And.intro r2 hK))
 obtain ⟨q0,q1,q2,q3⟩:=r1.all
 clear r1 r2 hK
 go_wp2_with fail
 refine (D.wide_any m _ HM.out.1 HM.out.2).mono ?_
 rintro e w3 ⟨hk3,s3,a3,k3,c3,rfl,n3,l3⟩
 have HL:=hid' l3
 have R1:=HR.out.1.kept hk3
 have R2:=HR.out.2.1.kept hk3
 have RK:=HR.out.2.2.trans hk3
 have l1:=R1.lt
 have l2:=R2.lt
 clear q0 q1 q2 q3 l3 hk3
 go_upto_region 2 with fail
 have hA:Kept w3 (w3.alloc (.cells #[.bool s3,.slice a3 k3 c3] 71)):=(Kept.refl w3).alloc _
 have r3:=Row2.alloc 71 w3 (.bool s3) (.slice a3 k3 c3)
 have r1:=R1.kept hA
 have r2:=R2.kept hA
 have hK:=RK.trans hA
 have n3':=n3.kept hA
 clear R1 R2 RK n3 HR
 generalize w3.alloc (.cells #[.bool s3,.slice a3 k3 c3] 71) = V at r1 r2 r3 hK n3' ⊢
 obtain ⟨p3,hp3⟩:∃ p,p = w3.heap.size:=⟨_,rfl⟩
 rw [<- hp3] at r3 ⊢
 have n23:¬ p2 = p3:=by omega
 have n13:¬ p1 = p3:=by omega
 have HV:Hid (∀ U,Kept V U->Row2 48 U p1 (.int .i64 m) (.int .i64 x)/\Row2 71 U p3 (.bool s3) (.slice a3 k3 c3)/\F.FRow U p2 (.bool false) (.slice none 0 0) (.bool false) (.slice none 0 0)/\Kept w U/\D.NIs U s3 (.slice a3 k3 c3) m/\True):=fun U hU => ⟨r1.kept hU,r3.kept hU,r2.kept hU,hK.trans hU,n3'.kept hU,trivial⟩
 obtain ⟨q0,q1,q2,q3⟩:=r1.all
 obtain ⟨q4,q5,q6,q7⟩:=r3.all
 clear hp3 r1 r2 r3 hK n3' l1 l2 hA q2 q3 q6 q7
 go_upto_region 3 with fail
 go_region_held3 (fun w' => w'.cell? ⟨p1,0,none⟩ = some (.int .i64 m)/\w'.cell? ⟨p1,1,none⟩ = some (.int .i64 x)/\w'.cell? ⟨p3,0,none⟩ = some (.bool s3)/\w'.cell? ⟨p3,1,none⟩ = some (.slice a3 k3 c3)) (go_keep) (first
  | (go_at_call 81; refine (rpower_int (-x) (by omega) (by omega) _).mono ?_; rintro e w4 ⟨hk4,s4,a4,k4,c4,rfl,n4,l4⟩; have K4:=(Kept.refl V).drew.trans hk4; have H4:=hid' (And.intro n4 l4); clear n4 l4; obtain ⟨d0,d1,_,_⟩:=(HV.out _ K4).1.all; obtain ⟨d2,d3,_,_⟩:=(HV.out _ K4).2.1.all)
  | (go_at_call 80; refine (F.Lowest_any s3 s4 a3 a4 k3 c3 k4 c4 m (pw (-x).toNat) _ (HV.out _ K4).2.2.2.2.1 H4.out.1 (by have:=HL.out; omega) (by have:=H4.out.2; omega) (by have:=pw_pos (-x).toNat; omega)).mono ?_; rintro e w5 ⟨hk5,v5,N5,D5,rfl,hF5,hL5⟩; obtain ⟨s5,a5,k5,c5,t5,a6,k6,c6,rfl,n5,n6,l5,l6⟩:=hF5; have K5:=K4.trans hk5; have H5:=hid' (And.intro n5 (And.intro n6 (And.intro l5 (And.intro l6 hL5)))); clear n5 n6 l5 l6 hL5; obtain ⟨g0,g1,_,_⟩:=(HV.out _ K5).1.all; obtain ⟨g2,g3,_,_⟩:=(HV.out _ K5).2.1.all; have z4:=(HV.out _ K5).2.2.1; have e0:=z4.c0; have e1:=z4.c1; have e2:=z4.c2; have e3:=z4.c3; have y0:=z4.fz 0; have y1:=z4.fz 1; have y2:=z4.fz 2; have y3:=z4.fz 3))
 have HZ:=hid' (And.intro z4 (HV.out _ K5).2.2.2.1)
 clear q0 q1 q4 q5 d0 d1 d2 d3 g0 g1 g2 g3 hk4 hk5 K4 K5 HV z4
 go_wp2
 refine bodyPost_ret (v:=.agg #[.bool s5,.slice a5 k5 c5,.bool t5,.slice a6 k6 c6]) (by simp [results,Tryz.results42,go_sem,e0,e1,e2,e3]) rfl ⟨F.Kept.put4 HZ.out.2 HP.out _ _ _ _,_,N5,D5.toNat,rfl,⟨s5,a5,k5,c5,t5,a6,k6,c6,rfl,F.nset4 H5.out.1 HZ.out.1,?_,by have h1:=H5.out.2.2.1; have h2:=HL.out; omega,by have h1:=H5.out.2.2.2.1; have h2:=H4.out.2; omega⟩,scl_low hx H5.out.2.2.2.2⟩
 rw [show ((D5.toNat:Nat):Int) = D5 by have:=H5.out.2.2.2.2.pos; omega]
 exact F.nset4 H5.out.2.1 HZ.out.1
set_option maxRecDepth 100000 in
set_option maxHeartbeats 8000000 in
theorem of_pos (m x:Int) (h1:-9223372036854775808<=m) (h2:m<=9223372036854775807) (hx:¬ x < 0) (hx1:x<=50) (w:World) :
  Calls Tryz.prog 42 #[.agg #[.int .i64 m,.int .i64 x]] w fun e w' => Kept w w'/\FE w' e m x:=by
 have HM:=hid' (And.intro h1 h2)
 clear h1 h2
 go_enter Tryz.func42,Tryz.ntmps42
 go_upto_region 1 with fail
 have r1:=(Row2.alloc 48 w (.int .i64 m) (.int .i64 x)).kept ((Kept.refl _).alloc (.cells #[.bool false,.slice none 0 0,.bool false,.slice none 0 0] 73))
 have r2:=F.FRow.alloc (w.alloc (.cells #[.int .i64 m,.int .i64 x] 48)) (.bool false) (.slice none 0 0) (.bool false) (.slice none 0 0)
 have hK:=((Kept.refl w).alloc (.cells #[.int .i64 m,.int .i64 x] 48)).alloc (.cells #[.bool false,.slice none 0 0,.bool false,.slice none 0 0] 73)
 simp only [World.size_alloc] at r2
 generalize (w.alloc (.cells #[.int .i64 m,.int .i64 x] 48)).alloc (.cells #[.bool false,.slice none 0 0,.bool false,.slice none 0 0] 73) = W at r1 r2 hK ⊢
 obtain ⟨p2,hp2⟩:∃ p,p = w.heap.size + 1:=⟨_,rfl⟩
 rw [<- hp2] at r2 ⊢
 obtain ⟨p1,hp1⟩:∃ p,p = w.heap.size:=⟨_,rfl⟩
 rw [<- hp1] at r1 ⊢
 have HP:Hid (w.heap.size<=p2):=by show _<=_; omega
 have n21:¬ p2 = p1:=by omega
 clear hp1 hp2
 have HR:=hid' (And.intro r1 (And.intro r2 hK))
 obtain ⟨q0,q1,q2,q3⟩:=r1.all
 clear r1 r2 hK
 go_wp2_with fail
 refine (D.wide_any m _ HM.out.1 HM.out.2).mono ?_
 rintro e w3 ⟨hk3,s3,a3,k3,c3,rfl,n3,l3⟩
 have HL:=hid' l3
 have R1:=HR.out.1.kept hk3
 have R2:=HR.out.2.1.kept hk3
 have RK:=HR.out.2.2.trans hk3
 have l1:=R1.lt
 have l2:=R2.lt
 clear q0 q1 q2 q3 l3 hk3
 go_upto_region 2 with fail
 have hA:Kept w3 (w3.alloc (.cells #[.bool s3,.slice a3 k3 c3] 71)):=(Kept.refl w3).alloc _
 have r3:=Row2.alloc 71 w3 (.bool s3) (.slice a3 k3 c3)
 have r1:=R1.kept hA
 have r2:=R2.kept hA
 have hK:=RK.trans hA
 have n3':=n3.kept hA
 clear R1 R2 RK n3 HR
 generalize w3.alloc (.cells #[.bool s3,.slice a3 k3 c3] 71) = V at r1 r2 r3 hK n3' ⊢
 obtain ⟨p3,hp3⟩:∃ p,p = w3.heap.size:=⟨_,rfl⟩
 rw [<- hp3] at r3 ⊢
 have n23:¬ p2 = p3:=by omega
 have n13:¬ p1 = p3:=by omega
 have HV:Hid (∀ U,Kept V U->Row2 48 U p1 (.int .i64 m) (.int .i64 x)/\Row2 71 U p3 (.bool s3) (.slice a3 k3 c3)/\F.FRow U p2 (.bool false) (.slice none 0 0) (.bool false) (.slice none 0 0)/\Kept w U/\D.NIs U s3 (.slice a3 k3 c3) m/\True):=fun U hU => ⟨r1.kept hU,r3.kept hU,r2.kept hU,hK.trans hU,n3'.kept hU,trivial⟩
 obtain ⟨q0,q1,q2,q3⟩:=r1.all
 obtain ⟨q4,q5,q6,q7⟩:=r3.all
 clear hp3 r1 r2 r3 hK n3' l1 l2 hA q2 q3 q6 q7
 go_upto_region 4 with fail
 go_region_held3 (fun w' => w'.cell? ⟨p1,0,none⟩ = some (.int .i64 m)/\w'.cell? ⟨p1,1,none⟩ = some (.int .i64 x)/\w'.cell? ⟨p3,0,none⟩ = some (.bool s3)/\w'.cell? ⟨p3,1,none⟩ = some (.slice a3 k3 c3)) (go_keep) (first
  | (go_at_call 81; refine (rpower_int x (by omega) (by omega) _).mono ?_; rintro e w4 ⟨hk4,s4,a4,k4,c4,rfl,n4,l4⟩; have K4:=(Kept.refl V).drew.trans hk4; have H4:=hid' (And.intro n4 l4); clear n4 l4; obtain ⟨d0,d1,_,_⟩:=(HV.out _ K4).1.all; obtain ⟨d2,d3,_,_⟩:=(HV.out _ K4).2.1.all)
  | (go_at_call 78; refine (D.Times_any s3 s4 a3 a4 k3 k4 c3 c4 m (pw x.toNat) _ (HV.out _ K4).2.2.2.2.1 H4.out.1 (by have:=HL.out; omega) (by have:=H4.out.2; omega)).mono ?_; rintro e w5 ⟨hk5,s5,a5,k5,c5,rfl,n5,l5⟩; have K5:=K4.trans hk5; have H5:=hid' (And.intro n5 l5); clear n5 l5; obtain ⟨g0,g1,_,_⟩:=(HV.out _ K5).1.all; obtain ⟨g2,g3,_,_⟩:=(HV.out _ K5).2.1.all)
  | (go_at_call 53; refine (D.small_num 1 _ (by omega) (by omega)).mono ?_; rintro e w6 ⟨hk6,a6,k6,c6,rfl,n6,l6⟩; have K6:=K5.trans hk6; have H6:=hid' (And.intro n6 (And.intro l6 (H5.out.1.kept hk6))); clear n6 l6; obtain ⟨j0,j1,_,_⟩:=(HV.out _ K6).1.all; obtain ⟨j2,j3,_,_⟩:=(HV.out _ K6).2.1.all; have z4:=(HV.out _ K6).2.2.1; have e0:=z4.c0; have e1:=z4.c1; have e2:=z4.c2; have e3:=z4.c3; have y0:=z4.fz 0; have y1:=z4.fz 1; have y2:=z4.fz 2; have y3:=z4.fz 3))
 have HZ:=hid' (And.intro z4 (HV.out _ K6).2.2.2.1)
 clear q0 q1 q4 q5 d0 d1 d2 d3 g0 g1 g2 g3 j0 j1 j2 j3 hk4 hk5 hk6 K4 K5 K6 HV z4
 go_wp2
 refine bodyPost_ret (v:=.agg #[.bool s5,.slice a5 k5 c5,.bool false,.slice a6 k6 c6]) (by simp [results,Tryz.results42,go_sem,e0,e1,e2,e3]) rfl ⟨F.Kept.put4 HZ.out.2 HP.out _ _ _ _,_,m * pw x.toNat,1,rfl,⟨s5,a5,k5,c5,false,a6,k6,c6,rfl,F.nset4 H6.out.2.2 HZ.out.1,F.nset4 H6.out.1 HZ.out.1,by have h1:=H5.out.2; have h2:=HL.out; have h3:=H4.out.2; omega,by have h1:=H6.out.2.1; omega⟩,scl_whole (by omega)⟩
theorem of_any (m x:Int) (h1:-9223372036854775808<=m) (h2:m<=9223372036854775807) (h3:-50<=x) (h4:x<=50) (w:World) :
  Calls Tryz.prog 42 #[.agg #[.int .i64 m,.int .i64 x]] w fun e w' => Kept w w'/\FE w' e m x:=by
 by_cases h:x < 0
 ·
  exact of_neg m x h1 h2 h h3 w
 ·
  exact of_pos m x h1 h2 h h4 w
def FQ (w:World) (e:Ending) (X Y:Int) (k k':Nat):Prop:=∃ v,e = .returned v/\F.FIs w v X Y k k'
set_option maxRecDepth 100000 in
set_option maxHeartbeats 8000000 in
theorem fof_any (v:Int) (h1:-9223372036854775808<=v) (h2:v<=9223372036854775807) (w:World) :
  Calls Tryz.prog 71 #[.int .i64 v] w fun e w' => Kept w w'/\FQ w' e v 1 4 1:=by
 have HM:=hid' (And.intro h1 h2)
 clear h1 h2
 go_enter Tryz.func71,Tryz.ntmps71
 go_upto_region 1 with fail
 have r2:=F.FRow.alloc w (.bool false) (.slice none 0 0) (.bool false) (.slice none 0 0)
 have hK:=(Kept.refl w).alloc (.cells #[.bool false,.slice none 0 0,.bool false,.slice none 0 0] 73)
 generalize w.alloc (.cells #[.bool false,.slice none 0 0,.bool false,.slice none 0 0] 73) = W at r2 hK ⊢
 obtain ⟨p2,hp2⟩:∃ p,p = w.heap.size:=⟨_,rfl⟩
 rw [<- hp2] at r2 ⊢
 have HP:Hid (w.heap.size<=p2):=by show _<=_; omega
 clear hp2
 have HV:Hid (∀ U,Kept W U->F.FRow U p2 (.bool false) (.slice none 0 0) (.bool false) (.slice none 0 0)/\Kept w U):=fun U hU => ⟨r2.kept hU,hK.trans hU⟩
 clear r2 hK
 go_wp2_with fail
 refine (D.wide_any v _ HM.out.1 HM.out.2).mono ?_
 rintro e w5 ⟨hk5,s5,a5,k5,c5,rfl,n5,l5⟩
 have K5:=hid' ((Kept.refl W).trans hk5)
 have H5:=hid' (And.intro n5 l5)
 clear n5 l5 hk5
 go_wp2_with fail
 refine (D.small_num 1 _ (by omega) (by omega)).mono ?_
 rintro e w6 ⟨hk6,a6,k6,c6,rfl,n6,l6⟩
 have K6:=K5.out.trans hk6
 have H6:=hid' (And.intro n6 (And.intro l6 (H5.out.1.kept hk6)))
 clear n6 l6 hk6
 have z4:=(HV.out _ K6).1
 have e0:=z4.c0
 have e1:=z4.c1
 have e2:=z4.c2
 have e3:=z4.c3
 have y0:=z4.fz 0
 have y1:=z4.fz 1
 have y2:=z4.fz 2
 have y3:=z4.fz 3
 have HZ:=hid' (And.intro z4 (HV.out _ K6).2)
 clear K5 K6 HV z4
 go_wp2
 refine bodyPost_ret (v:=.agg #[.bool s5,.slice a5 k5 c5,.bool false,.slice a6 k6 c6]) (by simp [results,Tryz.results71,go_sem,e0,e1,e2,e3]) rfl ⟨F.Kept.put4 HZ.out.2 HP.out _ _ _ _,_,rfl,⟨s5,a5,k5,c5,false,a6,k6,c6,rfl,F.nset4 H6.out.2.2 HZ.out.1,F.nset4 H6.out.1 HZ.out.1,H5.out.2,H6.out.2.1⟩⟩
set_option maxRecDepth 100000 in
set_option maxHeartbeats 8000000 in
theorem billion_any (s t:Bool) (a1 a2:Option Addr) (k1 c1 k2 c2:Nat) (X Y:Int) (w:World) (h1:D.NIs w s (.slice a1 k1 c1) X) (h2:D.NIs w t (.slice a2 k2 c2) Y) (hk1:k1<=110) (hk2:k2<=110) (hy:Y ≠ 0) :
  Calls Tryz.prog 113 #[.agg #[.bool s,.slice a1 k1 c1,.bool t,.slice a2 k2 c2]] w fun e w' => Kept w w'/\∃ v N D,e = .returned v/\F.FIs w' v N D 120 120/\F.Low (X * 1000000000) Y N D:=by
 have HA:=hid' (And.intro h1 (And.intro h2 (And.intro hk1 (And.intro hk2 hy))))
 clear h1 h2 hk1 hk2 hy
 go_enter Tryz.func113,Tryz.ntmps113
 go_upto_region 1 with fail
 have r1:=(F.FRow.alloc w (.bool s) (.slice a1 k1 c1) (.bool t) (.slice a2 k2 c2)).kept ((Kept.refl _).alloc (.cells #[.bool false,.slice none 0 0,.bool false,.slice none 0 0] 73))
 have r2:=F.FRow.alloc (w.alloc (.cells #[.bool s,.slice a1 k1 c1,.bool t,.slice a2 k2 c2] 73)) (.bool false) (.slice none 0 0) (.bool false) (.slice none 0 0)
 have hK:=((Kept.refl w).alloc (.cells #[.bool s,.slice a1 k1 c1,.bool t,.slice a2 k2 c2] 73)).alloc (.cells #[.bool false,.slice none 0 0,.bool false,.slice none 0 0] 73)
 simp only [World.size_alloc] at r2
 generalize (w.alloc (.cells #[.bool s,.slice a1 k1 c1,.bool t,.slice a2 k2 c2] 73)).alloc (.cells #[.bool false,.slice none 0 0,.bool false,.slice none 0 0] 73) = W at r1 r2 hK ⊢
 obtain ⟨p2,hp2⟩:∃ p,p = w.heap.size + 1:=⟨_,rfl⟩
 rw [<- hp2] at r2 ⊢
 obtain ⟨p1,hp1⟩:∃ p,p = w.heap.size:=⟨_,rfl⟩
 rw [<- hp1] at r1 ⊢
 have HP:Hid (w.heap.size<=p2):=by show _<=_; omega
 have n21:¬ p2 = p1:=by omega
 have HV:Hid (∀ V,Kept W V->F.FRow V p1 (.bool s) (.slice a1 k1 c1) (.bool t) (.slice a2 k2 c2)/\F.FRow V p2 (.bool false) (.slice none 0 0) (.bool false) (.slice none 0 0)/\Kept w V):=fun V hV => ⟨r1.kept hV,r2.kept hV,hK.trans hV⟩
 obtain ⟨q0,q1,q2,q3⟩:=F.frow_all r1
 clear hp1 hp2 r1 r2 hK
 go_region_held3 (fun w' => w'.cell? ⟨p1,0,none⟩ = some (.bool s)/\w'.cell? ⟨p1,1,none⟩ = some (.slice a1 k1 c1)/\w'.cell? ⟨p1,2,none⟩ = some (.bool t)/\w'.cell? ⟨p1,3,none⟩ = some (.slice a2 k2 c2)) (go_keep) (first
  | (go_at_call 71; refine (fof_any 1000000000 (by omega) (by omega) _).mono ?_; rintro e w3 ⟨hk3,v3,rfl,hF3⟩; obtain ⟨s3,a3,k3,c3,t3,a4,k4,c4,rfl,n3,n4,l3,l4⟩:=hF3; have K3:=(Kept.refl W).drew.trans hk3; have H3:=hid' (And.intro n3 (And.intro n4 (And.intro l3 l4))); clear n3 n4 l3 l4; obtain ⟨d0,d1,d2,d3⟩:=F.frow_all (HV.out _ K3).1)
  | (go_at_call 75; refine (F.FTimes_any s t s3 t3 a1 a2 a3 a4 k1 c1 k2 c2 k3 c3 k4 c4 X Y 1000000000 1 _ (HA.out.1.kept (HV.out _ K3).2.2) (HA.out.2.1.kept (HV.out _ K3).2.2) H3.out.1 H3.out.2.1 (by have h1:=HA.out.2.2.1; have h2:=H3.out.2.2.1; omega) (by have h1:=HA.out.2.2.2.1; have h2:=H3.out.2.2.2; omega) HA.out.2.2.2.2 (by decide)).mono ?_; rintro e w5 ⟨hk5,v5,N5,D5,rfl,hF5,hL5⟩; obtain ⟨s5,a5,k5,c5,t5,a6,k6,c6,rfl,n5,n6,l5,l6⟩:=hF5; have K5:=K3.trans hk5; have H5:=hid' (And.intro n5 (And.intro n6 (And.intro l5 (And.intro l6 hL5)))); clear n5 n6 l5 l6 hL5; obtain ⟨g0,g1,g2,g3⟩:=F.frow_all (HV.out _ K5).1; have z4:=(HV.out _ K5).2.1; have e0:=z4.c0; have e1:=z4.c1; have e2:=z4.c2; have e3:=z4.c3; have y0:=z4.fz 0; have y1:=z4.fz 1; have y2:=z4.fz 2; have y3:=z4.fz 3))
 have HZ:=hid' (And.intro z4 (HV.out _ K5).2.2)
 clear q0 q1 q2 q3 d0 d1 d2 d3 g0 g1 g2 g3 hk3 hk5 K3 K5 HV z4
 go_wp2
 refine bodyPost_ret (v:=.agg #[.bool s5,.slice a5 k5 c5,.bool t5,.slice a6 k6 c6]) (by simp [results,Tryz.results113,go_sem,e0,e1,e2,e3]) rfl ⟨F.Kept.put4 HZ.out.2 HP.out _ _ _ _,_,N5,D5,rfl,⟨s5,a5,k5,c5,t5,a6,k6,c6,rfl,F.nset4 H5.out.1 HZ.out.1,F.nset4 H5.out.2.1 HZ.out.1,by have h1:=H5.out.2.2.1; have h2:=HA.out.2.2.1; have h3:=H3.out.2.2.1; omega,by have h1:=H5.out.2.2.2.1; have h2:=HA.out.2.2.2.1; have h3:=H3.out.2.2.2; omega⟩,by have:=H5.out.2.2.2.2; rwa [Int.mul_one] at this⟩
end Q
namespace V
open Q (okN okN_bd Scl)
def lev (p:Int × Int):Int:=F.near (U p.1 p.2) 1000000000
def seg (p q:Int × Int) (g L:Int):Int:=F.near (U p.1 p.2 * (L - g) + U q.1 q.2 * g) (L.toNat * 1000000000)
def sayP (p q:Int × Int) (d r b f P t:Int):Int :=
 if t < d then lev p else
  if (t - d) % P < r then seg p q ((t - d) % P) r else if (t - d) % P < r + b then lev q else if (t - d) % P < r + b + f then seg q p ((t - d) % P - (r + b)) f else lev p
def sayQ (vs:List (Int × Int)) (ss:List Int) (t:Int):Int :=
 if fa ss t = ss.length then lev (vs.getD (vs.length - 1) (0,0)) else if fa ss t = 0 then lev (vs.getD 0 (0,0)) else
  seg (vs.getD (fa ss t - 1) (0,0)) (vs.getD (fa ss t) (0,0)) (t - ss.getD (fa ss t - 1) 0) (ss.getD (fa ss t) 0 - ss.getD (fa ss t - 1) 0)
def sayW (k:Int) (vs:List (Int × Int)) (ss:List Int) (t:Int):Int :=
 if k = 2 then sayP (vs.getD 0 (0,0)) (vs.getD 1 (0,0)) (ss.getD 0 0) (ss.getD 1 0) (ss.getD 2 0) (ss.getD 3 0) (ss.getD 4 0) t else if k = 3 then sayQ vs ss t else lev (vs.getD (t % vs.length).toNat (0,0))
def corP (d r b f P t:Int):Int :=
 if t < d then d else t - (t - d) % P + (if (t - d) % P < r then r else if (t - d) % P < r + b then r + b else if (t - d) % P < r + b + f then r + b + f else P)
def corW (k:Int) (ss:List Int) (t:Int):Option Int :=
 if k = 2 then some (corP (ss.getD 0 0) (ss.getD 1 0) (ss.getD 2 0) (ss.getD 3 0) (ss.getD 4 0) t) else if k = 3 then (if fa ss t = ss.length then none else some (ss.getD (fa ss t) 0)) else if k = 4 then some (t + 1) else none
def nxtW (k:Int) (ss:List Int) (t:Int):Int × Bool :=
 match corW k ss t with
 | none => (0,false)
 | some c => if c<=1000000000 then (c,true) else (0,false)
def atW (k:Int) (vs:List (Int × Int)) (ss:List Int) (t:Int):Int × Int :=
 if okW k vs ss = true then (if okS t = true then (F.gridV (sayW k vs ss t),F.gridE (sayW k vs ss t)) else (0,4)) else (0,40)
def nextW (k:Int) (vs:List (Int × Int)) (ss:List Int) (t:Int):Int × Bool :=
 if okW k vs ss = true/\okS t = true then nxtW k ss t else (0,false)
open Q (okN okN_bd Scl hid')
theorem nis_short {w:World} {s:Bool} {ao:Option Addr} {k c:Nat} {z:Int} (h:D.NIs w s (.slice ao k c) z) (hz:z.natAbs<=10 ^ 100):k<=100:=by
 obtain ⟨l,h1,h2,rfl⟩:=h
 have e:=h1.len
 subst e
 rw [D.natAbs_int] at hz
 apply Classical.byContradiction
 intro hk
 have h3:=D.val_ge h2.tr (fun e => by rw [e] at hk; simp at hk)
 have h4:65536 ^ 100<=65536 ^ (l.length - 1):=Nat.pow_le_pow_right (by decide) (by omega)
 have h5:(10:Nat) ^ 100 < 65536 ^ 100:=by decide
 exact absurd (Nat.le_trans h4 (Nat.le_trans h3 hz)) (by omega)
def FT (w:World) (v:Value) (A:Int) (S:Nat):Prop:=∃ N D:Int,F.FIs w v N D 100 100/\0 < D/\Nat.gcd N.natAbs D.natAbs = 1/\N * (S:Int) = A * D
theorem FT.kept {w w':World} {v:Value} {A:Int} {S:Nat} (h:FT w v A S) (k:Kept w w'):FT w' v A S:=by
 obtain ⟨N,D,h1,h2⟩:=h
 exact ⟨N,D,h1.kept k,h2⟩
theorem FT.scale {w:World} {v:Value} {A:Int} {S:Nat} (h:FT w v A S) (c:Nat):FT w v (A * c) (S * c):=by
 obtain ⟨N,D,h1,h2,h3,h4⟩:=h
 refine ⟨N,D,h1,h2,h3,?_⟩
 rw [Int.natCast_mul,<- Int.mul_assoc,h4,Int.mul_right_comm]
theorem ft_of_low {w:World} {v:Value} {X Y N D A:Int} {S k k':Nat} (h:F.FIs w v N D k k') (hl:F.Low X Y N D) (hY:Y ≠ 0) (hS:0 < S) (he:X * (S:Int) = A * Y) (hA:A.natAbs<=10 ^ 100) (hB:S<=10 ^ 100):FT w v A S:=by
 have e:N * (S:Int) = A * D:=by
  apply Int.eq_of_mul_eq_mul_right hY
  calc N * S * Y = N * Y * S:=Int.mul_right_comm _ _ _
   _ = X * D * S:=by rw [hl.eq]
   _ = X * S * D:=Int.mul_right_comm _ _ _
   _ = A * Y * D:=by rw [he]
   _ = A * D * Y:=Int.mul_right_comm _ _ _
 have hD:(D.natAbs:Int) = D:=Int.natAbs_of_nonneg (by have:=hl.pos; omega)
 have hb:=low_bd (N:=N) (A:=A) (D:=D.natAbs) (S:=S) hl.low hS (by rw [hD]; exact e)
 obtain ⟨s,ao,n,c,t,ap,n',c',rfl,h1,h2,_,_⟩:=h
 exact ⟨N,D,⟨s,ao,n,c,t,ap,n',c',rfl,h1,h2,nis_short h1 (Nat.le_trans hb.1 hA),nis_short h2 (Nat.le_trans hb.2 hB)⟩,hl.pos,hl.low,e⟩
section
variable {v v':Value} {A A':Int} {S T:Nat} (w:World)
theorem ft_plus (h:FT w v A S) (h':FT w v' A' S) (hS:0 < S) (hA:(A + A').natAbs<=10 ^ 100) (hB:S<=10 ^ 100) :
  Calls Tryz.prog 74 #[v,v'] w fun e w' => Kept w w'/\∃ u,e = .returned u/\FT w' u (A + A') S:=by
 obtain ⟨N,D,⟨s,a1,k1,c1,t,a2,k2,c2,rfl,n1,n2,l1,l2⟩,p,_,e⟩:=h
 obtain ⟨N',D',⟨s',b1,k3,c3,t',b2,k4,c4,rfl,n3,n4,l3,l4⟩,p',_,e'⟩:=h'
 have hy:D * D' ≠ 0:=Int.mul_ne_zero (by omega) (by omega)
 refine (F.FPlus_any s t s' t' a1 a2 b1 b2 k1 c1 k2 c2 k3 c3 k4 c4 N D N' D' w n1 n2 n3 n4 (by omega) hy).mono ?_
 rintro e0 w' ⟨hk,u,X,Y,rfl,hF,hL⟩
 refine ⟨hk,u,rfl,ft_of_low hF hL hy hS ?_ hA hB⟩
 calc (N * D' + N' * D) * S = N * S * D' + N' * S * D:=by simp only [Int.add_mul]; simp only [Int.mul_right_comm]
  _ = A * D * D' + A' * D' * D:=by rw [e,e']
  _ = (A + A') * (D * D'):=by simp only [Int.add_mul,Int.mul_assoc,Int.mul_comm D']
theorem ft_less (h:FT w v A S) (h':FT w v' A' S) (hS:0 < S) (hA:(A - A').natAbs<=10 ^ 100) (hB:S<=10 ^ 100) :
  Calls Tryz.prog 73 #[v,v'] w fun e w' => Kept w w'/\∃ u,e = .returned u/\FT w' u (A - A') S:=by
 obtain ⟨N,D,⟨s,a1,k1,c1,t,a2,k2,c2,rfl,n1,n2,l1,l2⟩,p,_,e⟩:=h
 obtain ⟨N',D',⟨s',b1,k3,c3,t',b2,k4,c4,rfl,n3,n4,l3,l4⟩,p',_,e'⟩:=h'
 have hy:D * D' ≠ 0:=Int.mul_ne_zero (by omega) (by omega)
 refine (F.FLess_any s t s' t' a1 a2 b1 b2 k1 c1 k2 c2 k3 c3 k4 c4 N D N' D' w n1 n2 n3 n4 (by omega) hy).mono ?_
 rintro e0 w' ⟨hk,u,X,Y,rfl,hF,hL⟩
 refine ⟨hk,u,rfl,ft_of_low hF hL hy hS ?_ hA hB⟩
 calc (N * D' + -N' * D) * S = N * S * D' - N' * S * D:=by rw [Int.neg_mul,<- Int.sub_eq_add_neg,Int.sub_mul]; simp only [Int.mul_right_comm]
  _ = A * D * D' - A' * D' * D:=by rw [e,e']
  _ = (A - A') * (D * D'):=by simp only [Int.sub_mul,Int.mul_assoc,Int.mul_comm D']
theorem ft_times (h:FT w v A S) (h':FT w v' A' T) (hS:0 < S) (hT:0 < T) (hA:(A * A').natAbs<=10 ^ 100) (hB:S * T<=10 ^ 100) :
  Calls Tryz.prog 75 #[v,v'] w fun e w' => Kept w w'/\∃ u,e = .returned u/\FT w' u (A * A') (S * T):=by
 obtain ⟨N,D,⟨s,a1,k1,c1,t,a2,k2,c2,rfl,n1,n2,l1,l2⟩,p,_,e⟩:=h
 obtain ⟨N',D',⟨s',b1,k3,c3,t',b2,k4,c4,rfl,n3,n4,l3,l4⟩,p',_,e'⟩:=h'
 have hy:D * D' ≠ 0:=Int.mul_ne_zero (by omega) (by omega)
 refine (F.FTimes_any s t s' t' a1 a2 b1 b2 k1 c1 k2 c2 k3 c3 k4 c4 N D N' D' w n1 n2 n3 n4 (by omega) (by omega) (by omega) (by omega)).mono ?_
 rintro e0 w' ⟨hk,u,X,Y,rfl,hF,hL⟩
 refine ⟨hk,u,rfl,ft_of_low hF hL hy (Nat.mul_pos hS hT) ?_ hA hB⟩
 rw [Int.natCast_mul]
 calc N * N' * ((S:Int) * T) = N * S * (N' * T):=by simp only [Int.mul_assoc,Int.mul_left_comm]
  _ = A * D * (A' * D'):=by rw [e,e']
  _ = A * A' * (D * D'):=by simp only [Int.mul_assoc,Int.mul_left_comm]
theorem ft_int (z:Int) (h:z.natAbs<=1000000000):Calls Tryz.prog 71 #[.int .i64 z] w fun e w' => Kept w w'/\∃ u,e = .returned u/\FT w' u z 1:=by
 refine (Q.fof_any z (by omega) (by omega) w).mono ?_
 rintro e w' ⟨hk,u,rfl,s,ao,n,c,t,ap,n',c',rfl,h1,h2,h3,h4⟩
 exact ⟨hk,_,rfl,z,1,⟨s,ao,n,c,t,ap,n',c',rfl,h1,h2,by omega,by omega⟩,by decide,Nat.gcd_one_right _,rfl⟩
theorem ft_num (m x:Int) (h:okN m x = true):Calls Tryz.prog 42 #[.agg #[.int .i64 m,.int .i64 x]] w fun e w' => Kept w w'/\∃ u,e = .returned u/\FT w' u (U m x) (10 ^ 18):=by
 have hb:=okN_bd h
 refine (Q.of_any m x (by omega) (by omega) (by omega) (by omega) w).mono ?_
 rintro e w' ⟨hk,u,N,D,rfl,⟨s,ao,n,c,t,ap,n',c',rfl,h1,h2,h3,h4⟩,hs⟩
 have e1:=scl_u hb.2.2.1 hs
 have hbd:=low_bd hs.2.1 (by decide) e1
 have hu:=u_bd h
 have h36:(10:Nat) ^ 36<=10 ^ 100:=by decide
 have h18:(10:Nat) ^ 18<=10 ^ 100:=by decide
 exact ⟨hk,_,rfl,N,D,⟨s,ao,n,c,t,ap,n',c',rfl,h1,h2,nis_short h1 (by omega),nis_short h2 (by rw [Int.natAbs_natCast]; omega)⟩,by have:=hs.1; omega,by rw [Int.natAbs_natCast]; exact hs.2.1,e1⟩
theorem ft_billion (h:FT w v A S) (hS:0 < S) (hA:(A * 1000000000).natAbs<=10 ^ 100) (hB:S<=10 ^ 100) :
  Calls Tryz.prog 113 #[v] w fun e w' => Kept w w'/\∃ u,e = .returned u/\FT w' u (A * 1000000000) S:=by
 obtain ⟨N,D,⟨s,a1,k1,c1,t,a2,k2,c2,rfl,n1,n2,l1,l2⟩,p,_,e⟩:=h
 refine (Q.billion_any s t a1 a2 k1 c1 k2 c2 N D w n1 n2 (by omega) (by omega) (by omega)).mono ?_
 rintro e0 w' ⟨hk,u,X,Y,rfl,hF,hL⟩
 refine ⟨hk,u,rfl,ft_of_low hF hL (by omega) hS ?_ hA hB⟩
 rw [Int.mul_right_comm,e,Int.mul_right_comm]
end
end V
end Go.Proofs.YthfbfbfambbkaaaGreatDoor
