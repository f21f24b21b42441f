/- num.scaled: the walk. -/
import Derived.Test.YthfbfbfambbkaaaGreatDoorGaq
namespace Go.Proofs.YthfbfbfambbkaaaGreatDoor
open Go.RowKit
namespace Q
theorem pow9 {x:Int} (h2:x<=9):10 ^ x.toNat<=1000000000:=Nat.pow_le_pow_right (n:=10) (j:=9) (by decide) (by omega)
theorem tdiv_two {x:Int} (h1:-18<=x) (h2:x<=18):-9<=x.tdiv 2/\x.tdiv 2<=9/\-9<=x - x.tdiv 2/\x - x.tdiv 2<=9/\x.toNat = (x.tdiv 2).toNat + (x - x.tdiv 2).toNat/\(-x).toNat = (-(x.tdiv 2)).toNat + (-(x - x.tdiv 2)).toNat:=by
 rcases (show x < 0 ∨ 0<=x by omega) with h | h
 ·
  have e:x.tdiv 2 = -((-x) / 2):=by
   have:=Int.neg_tdiv (a:=-x) (b:=2)
   rw [Int.neg_neg] at this
   rw [this,Int.tdiv_eq_ediv_of_nonneg (by omega)]
  rw [e]; omega
 ·
  rw [Int.tdiv_eq_ediv_of_nonneg h]; omega
theorem wrap_i64' {n:Int} (h0:-9223372036854775808<=n) (h1:n<=9223372036854775807):IntKind.i64.wrap n = n:=by rw [IntKind.wrap_i64]; omega
theorem RQ.put4 {B p:Nat} {w:World} {v:Value} {N:Int} {D:Nat} {y0 y1 y2 y3:Value} (h:RQ B w v N D) (hr:F.RRow w p y0 y1 y2 y3) (x0 x1 x2 x3:Value):RQ B (Q.put4 w p x0 x1 x2 x3) v N D:=by
 obtain ⟨s,ao,ap,k1,c,k',c',l,l',rfl,n1,n2,r⟩:=h
 exact ⟨s,ao,ap,k1,c,k',c',l,l',rfl,New.put4 n1 hr (by decide) _ _ _ _,New.put4 n2 hr (by decide) _ _ _ _,r⟩
theorem rrow_far {w:World} {p q:Nat} {x0 x1 x2 x3:Value} (h:F.RRow w p x0 x1 x2 x3) (hne:¬ p = q) (y0 y1 y2 y3:Value):F.RRow (Q.put4 w q y0 y1 y2 y3) p x0 x1 x2 x3 :=
 World.rowIs.setOther (World.rowIs.setOther (World.rowIs.setOther (World.rowIs.setOther h hne y0) hne y1) hne y2) hne y3
theorem two_steps {m X X5:Int} {Y Y5 a b c d:Nat} (h1:X * ((1 * d:Nat):Int) = m * (c:Int) * (Y:Int)) (h2:X5 * ((Y * b:Nat):Int) = X * (a:Int) * (Y5:Int)) (hY:0 < Y):X5 * ((d * b:Nat):Int) = m * ((c * a:Nat):Int) * (Y5:Int):=by
 have hY':(Y:Int) ≠ 0:=by omega
 apply Int.eq_of_mul_eq_mul_right hY'
 simp only [Int.natCast_mul,Nat.one_mul] at h1 h2 ⊢
 have e1:X5 * ((d:Int) * b) * Y = (X5 * (Y * b)) * d:=by rw [Int.mul_comm (d:Int) b,<- Int.mul_assoc,<- Int.mul_assoc,Int.mul_right_comm,Int.mul_right_comm X5 b Y]
 have e2:m * ((c:Int) * a) * Y5 * Y = (m * c * Y) * a * Y5:=by
  rw [<- Int.mul_assoc m c a,Int.mul_right_comm _ (Y5:Int) Y,Int.mul_right_comm (m * c) (a:Int) Y]
 rw [e1,e2,h2,<- h1,Int.mul_right_comm (X * a) (Y5:Int) d,Int.mul_right_comm X (a:Int) d]
theorem nat_bd {X:Int} {p:Nat} (h:X.natAbs<=10 ^ 18) (hp:p<=1000000000):(X * (p:Int)).natAbs<=10 ^ 27:=by
 rw [Int.natAbs_mul,Int.natAbs_natCast]
 exact Nat.le_trans (Nat.mul_le_mul h hp) (by decide)
set_option maxRecDepth 100000 in
set_option maxHeartbeats 8000000 in
theorem scaled_any (m x:Int) (hm1:-999999999<=m) (hm2:m<=999999999) (h1:-18<=x) (h2:x<=18) (w:World) :
  Calls Tryz.prog 55 #[.int .i64 m,.int .i64 x] w fun e w' => Kept w w'/\∃ v N D,e = .returned v/\RQ w.heap.size w' v N D/\N * (10 ^ (-x).toNat:Nat) = m * (10 ^ x.toNat:Nat) * D:=by
 have HT:=hid' (tdiv_two h1 h2)
 go_enter Tryz.func55,Tryz.ntmps55
 go_upto_region 1 with fail
 have hK:=(Kept.refl w).alloc (.cells #[.bool false,.slice none 0 0,.bool false,.slice none 0 0] 29)
 have hR:=F.RRow.alloc w (.bool false) (.slice none 0 0) (.bool false) (.slice none 0 0)
 generalize w.alloc (.cells #[.bool false,.slice none 0 0,.bool false,.slice none 0 0] 29) = W at hK hR ⊢
 obtain ⟨p4,hp4⟩:∃ p,p = w.heap.size:=⟨_,rfl⟩
 rw [<- hp4] at hR ⊢
 have HP:Hid (w.heap.size<=p4):=by show _<=_; omega
 have HK:=hid' hK
 have HR:=hid' hR
 clear hp4 hK hR
 obtain ⟨g,hg⟩:∃ g,g = x.tdiv 2:=⟨_,rfl⟩
 have HG:=hid' hg
 clear hg
 go_wp2_with fail
 refine (whole_any m (by omega) (by omega) _).mono ?_
 rintro e w1 ⟨hk1,v1,rfl,hq1⟩
 have H1:=hid' hq1
 have HK1:=hid' hk1
 clear hq1 hk1
 go_wp2_with fail
 refine (tenTo_any (x.tdiv 2) HT.out.1 HT.out.2.1 _).mono ?_
 rintro e w2 ⟨hk2,v2,rfl,hq2⟩
 have H1:=hid' (H1.out.kept hk2)
 have H2:=hid' hq2
 have HK2:=hid' (HK1.out.trans hk2)
 clear hq2 hk2
 go_wp2_with fail
 have hb1:(m * ((10 ^ (x.tdiv 2).toNat:Nat):Int)).natAbs<=10 ^ 18/\1 * 10 ^ (-(x.tdiv 2)).toNat<=10 ^ 9:=by
  have a1:=pow9 HT.out.2.1
  have a2:=pow9 (x:=-(x.tdiv 2)) (by have:=HT.out.1; omega)
  refine ⟨?_,by omega⟩
  rw [Int.natAbs_mul,Int.natAbs_natCast]
  exact Nat.le_trans (Nat.mul_le_mul (show m.natAbs<=1000000000 by omega) a1) (by decide)
 refine (mul_small _ H1.out H2.out (Nat.le_trans hb1.1 (by decide)) (Nat.le_trans hb1.2 (by decide))).mono ?_
 rintro e w3 ⟨hk3,u,X,Y,rfl,hq3,hX,hX1,hX2⟩
 have hq3':=hq3
 obtain ⟨s,ao,ap,k,c,k',c',l,l',rfl,_⟩:=hq3'
 have H3:=hid' (And.intro hq3 (And.intro hX (And.intro (Nat.le_trans hX1 hb1.1) (Nat.le_trans hX2 hb1.2))))
 have HK3:=hid' (HK2.out.trans hk3)
 clear hq3 hX hX1 hX2 hk3 hb1
 go_upto_region 3 with fail
 have hR6:=F.RRow.alloc w3 (.bool s) (.slice ao k c) (.bool false) (.slice ap k' c')
 have hK6:=(Kept.refl w3).alloc (.cells #[.bool s,.slice ao k c,.bool false,.slice ap k' c'] 29)
 generalize w3.alloc (.cells #[.bool s,.slice ao k c,.bool false,.slice ap k' c'] 29) = W6 at hR6 hK6 ⊢
 obtain ⟨p6,hp6⟩:∃ p,p = w3.heap.size:=⟨_,rfl⟩
 rw [<- hp6] at hR6 ⊢
 have n46:¬ p4 = p6:=by have:=HR.out.lt; have:=HK3.out.size; omega
 have n64:¬ p6 = p4:=fun h => n46 h.symm
 have HP6:Hid (w.heap.size<=p6):=by show _<=_; have:=HK.out.size; have:=HK3.out.size; omega
 have H3:=hid' (And.intro (H3.out.1.kept hK6) H3.out.2)
 have HK6:=hid' (HK3.out.trans hK6)
 have H6:=hid' hR6
 obtain ⟨g,hg⟩:∃ g,g = x.tdiv 2:=⟨_,rfl⟩
 rw [<- hg] at H3 HT ⊢
 have hwr:IntKind.i64.wrap (x - g) = x - g:=wrap_i64' (by have:=HT.out; omega) (by have:=HT.out; omega)
 have s0:=hR6.c0
 have s1:=hR6.c1
 have s2:=hR6.c2
 have s3:=hR6.c3
 clear hp6 hK6 hR6 hg
 go_region_with (first
  | (go_at_call 94; refine (tenTo_any (x - g) HT.out.2.2.1 HT.out.2.2.2.1 _).mono ?_; rintro e w4 ⟨hk4,v4,rfl,hq4⟩; have H4:=hid' hq4; have K4:Kept W6 w4:=(Kept.refl W6).drew.trans hk4; have t0:=(H6.out.kept K4).c0; have t1:=(H6.out.kept K4).c1; have t2:=(H6.out.kept K4).c2; have t3:=(H6.out.kept K4).c3; clear hq4 hk4)
  | (go_at_call 23; refine (mul_small _ (H3.out.1.kept K4) H4.out (Nat.le_trans (nat_bd H3.out.2.2.1 (pow9 HT.out.2.2.2.1)) (by decide)) (Nat.le_trans (Nat.mul_le_mul H3.out.2.2.2 (pow9 (x:=-(x - g)) (by have:=HT.out.2.2.1; omega))) (by decide))).mono ?_; rintro e w5 ⟨hk5,u5,X5,Y5,rfl,hq5,hX5,_,_⟩; have hq5':=hq5; obtain ⟨s5,ao5,ap5,k5,c5,k5',c5',l5,l5',rfl,_⟩:=hq5'; have H5:=hid' (And.intro hq5 hX5); have K5:Kept W6 w5:=K4.trans hk5; have z0:=(H6.out.kept K5).c0; have z1:=(H6.out.kept K5).c1; have z2:=(H6.out.kept K5).c2; have z3:=(H6.out.kept K5).c3; have y0:=(H6.out.kept K5).fz 0; have y1:=(H6.out.kept K5).fz 1; have y2:=(H6.out.kept K5).fz 2; have y3:=(H6.out.kept K5).fz 3; clear hq5 hX5 hk5))
 all_goals
  have hR4:=HR.out.kept (HK6.out.trans K5)
  have q0:=hR4.c0
  have q1:=hR4.c1
  have q2:=hR4.c2
  have q3:=hR4.c3
  have f0:=hR4.fz 0
  have f1:=hR4.fz 1
  have f2:=hR4.fz 2
  have f3:=hR4.fz 3
  have H4':=hid' hR4
  have HK5:=hid' (HK.out.trans (HK6.out.trans K5))
  have hB:w.heap.size<=w4.heap.size:=(HK.out.trans (HK6.out.trans K4)).size
  have HB:=hid' hB
  have H65:=hid' (H6.out.kept K5)
  clear hR4 K4 K5 hB t0 t1 t2 t3 s0 s1 s2 s3
  go_wp2_with fail
  refine bodyPost_ret (v:=.agg #[.bool s5,.slice ao5 k5 c5,.bool false,.slice ap5 k5' c5']) (by simp [results,Tryz.results55,go_sem,q0,q1,q2,q3]) rfl ⟨Kept.put4 (Kept.put4 HK5.out HP6.out _ _ _ _) HP.out _ _ _ _,_,X5,Y5,rfl,RQ.put4 (RQ.put4 (H5.out.1.mono HB.out) H65.out _ _ _ _) (rrow_far H4'.out n46 _ _ _ _) _ _ _ _,?_⟩
  rw [HT.out.2.2.2.2.1,HT.out.2.2.2.2.2,Nat.pow_add,Nat.pow_add]
  exact two_steps H3.out.2.1 H5.out.2 H3.out.1.low.1
end Q
end Go.Proofs.YthfbfbfambbkaaaGreatDoor
