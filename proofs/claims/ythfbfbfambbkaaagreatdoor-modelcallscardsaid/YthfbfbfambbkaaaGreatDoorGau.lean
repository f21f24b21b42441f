/- shuntref05.Knot, shuntref05.Lies. shuntref05.Side, shuntref05.Find. shuntref05.Line. shuntref05.Part. -/
import Derived.Test.YthfbfbfambbkaaaGreatDoorGat
import Derived.Test.YthfbfbfambbkaaaGreatDoorGas
import Derived.Test.YthfbfbfambbkaaaGreatDoorGam
import Derived.Test.YthfbfbfambbkaaaGreatDoorGap
namespace Go.Proofs.YthfbfbfambbkaaaGreatDoor
open Go.RowKit
namespace V
open Q (hid' Row3 Row2 okN okN_bd Scl RQ)
theorem FT.shape {w:World} {v:Value} {A:Int} {S:Nat} (h:FT w v A S):∃ (s:Bool) (ao:Option Addr) (n c:Nat) (t:Bool) (ap:Option Addr) (n' c':Nat),v = .agg #[.bool s,.slice ao n c,.bool t,.slice ap n' c']:=by
 obtain ⟨N,D,⟨s,ao,n,c,t,ap,n',c',rfl,_⟩,_⟩:=h
 exact ⟨_,_,_,_,_,_,_,_,rfl⟩
theorem FT.put4 {w:World} {v:Value} {A:Int} {S p:Nat} {b b':Bool} {ao ao':Option Addr} {n n' c c':Nat} (h:FT w v A S) (hF:F.FRow w p (.bool b) (.slice ao n c) (.bool b') (.slice ao' n' c')) (y0 y1 y2 y3:Value):FT (F.put4 w p y0 y1 y2 y3) v A S:=by
 obtain ⟨N,D,⟨s,a1,k,d,t,a2,k',d',rfl,n1,n2,l1,l2⟩,r⟩:=h
 exact ⟨N,D,⟨s,a1,k,d,t,a2,k',d',rfl,F.nset4 n1 hF,F.nset4 n2 hF,l1,l2⟩,r⟩
theorem frow_put4 {w:World} {p:Nat} {x0 x1 x2 x3:Value} (h:F.FRow w p x0 x1 x2 x3) (y0 y1 y2 y3:Value):F.FRow (F.put4 w p y0 y1 y2 y3) p y0 y1 y2 y3 :=
 ((World.rowIs.set (World.rowIs.set (World.rowIs.set (World.rowIs.set h 0 y0) 1 y1) 2 y2) 3 y3).congr fun i hi => by
  match i,hi with
  | 0,_ => rfl
  | 1,_ => rfl
  | 2,_ => rfl
  | 3,_ => rfl)
theorem frow_far {w:World} {p q:Nat} {x0 x1 x2 x3:Value} (h:F.FRow w p x0 x1 x2 x3) (hne:¬ p = q) (y0 y1 y2 y3:Value):F.FRow (F.put4 w q y0 y1 y2 y3) p x0 x1 x2 x3 :=
 World.rowIs.setOther (World.rowIs.setOther (World.rowIs.setOther (World.rowIs.setOther h hne y0) hne y1) hne y2) hne y3
set_option maxRecDepth 100000 in
set_option maxHeartbeats 8000000 in
theorem knotR_any (s:ByteArray) (k:Int) (a1 a2:Option Addr) (n c m c':Nat) (vs:List (Int × Int)) (j:Nat) (w:World) (h2:NSl w (.slice a2 m c') vs) (hj:j < m) (hok:okN (vs.getD j (0,0)).1 (vs.getD j (0,0)).2 = true) :
  Calls Tryz.prog 72 #[.agg #[.string s,.int .u8 k,.slice a1 n c,.slice a2 m c'],.int .i64 (j:Int)] w fun e w' => Kept w w'∧∃ u,e = .returned u∧FT w' u (U (vs.getD j (0,0)).1 (vs.getD j (0,0)).2 * 1000000000) (10 ^ 18):=by
 obtain ⟨b,off,rfl,hbb,hc⟩:=h2.at (j:=j) hj
 obtain ⟨e0,e1⟩:=hc j hj
 have HC:=hid' (And.intro hbb (And.intro e0 e1))
 clear hc e0 e1 hbb h2
 obtain ⟨x,hX⟩:∃ x,x = vs.getD j (0,0):=⟨_,rfl⟩
 rw [← hX] at HC hok ⊢
 clear hX
 obtain ⟨x0,x1⟩:=x
 dsimp only at HC hok ⊢
 have HO:=hid' hok
 have hj':(j:Int) < (m:Int):=by omega
 clear hok
 go_enter Tryz.func72,Tryz.ntmps72
 go_upto_region 1 with fail
 have hM:=(Row4.alloc 24 w (.string s) (.int .u8 k) (.slice a1 n c) (.slice (some ⟨b,off,none⟩) m c')).kept ((Kept.refl (w.alloc (.cells #[.string s,.int .u8 k,.slice a1 n c,.slice (some ⟨b,off,none⟩) m c'] 24))).alloc (.cells #[.bool false,.slice none 0 0,.bool false,.slice none 0 0] 73))
 have hZ:=F.FRow.alloc (w.alloc (.cells #[.string s,.int .u8 k,.slice a1 n c,.slice (some ⟨b,off,none⟩) m c'] 24)) (.bool false) (.slice none 0 0) (.bool false) (.slice none 0 0)
 have hK:=(((Kept.refl w).alloc (.cells #[.string s,.int .u8 k,.slice a1 n c,.slice (some ⟨b,off,none⟩) m c'] 24)).alloc (.cells #[.bool false,.slice none 0 0,.bool false,.slice none 0 0] 73))
 simp only [World.size_alloc] at hZ
 generalize (w.alloc (.cells #[.string s,.int .u8 k,.slice a1 n c,.slice (some ⟨b,off,none⟩) m c'] 24)).alloc (.cells #[.bool false,.slice none 0 0,.bool false,.slice none 0 0] 73) = W at hM hZ hK ⊢
 obtain ⟨pz,hqpz⟩:∃ q,q = w.heap.size + 1:=⟨_,rfl⟩
 rw [← hqpz] at hZ ⊢
 obtain ⟨p,hqp⟩:∃ q,q = w.heap.size:=⟨_,rfl⟩
 rw [← hqp] at hM ⊢
 have HP:=hid' (show w.heap.size≤pz by omega)
 have HK:=hid' (And.intro hK hZ)
 have q3:=hM.c3
 have d0:=(Below.cell hK (p:=⟨b,off + j * 2,none⟩) HC.out.1).trans HC.out.2.1
 have d1:=(Below.cell hK (p:=⟨b,off + j * 2 + 1,none⟩) HC.out.1).trans HC.out.2.2
 clear hqp hqpz hM hZ hK
 go_wp2_with fail
 refine (ft_num _ x0 x1 HO.out).mono ?_
 rintro e w1 ⟨hk1,u1,rfl,f1⟩
 have HK:=hid' (And.intro (HK.out.1.trans hk1) (HK.out.2.kept hk1))
 have H1:=hid' f1
 clear hk1 f1 q3 d0 d1
 go_wp2_with fail
 refine (ft_billion _ H1.out (by decide) (by rw [Int.natAbs_mul]; exact Nat.le_trans (Nat.mul_le_mul (u_abs HO.out) (Nat.le_refl _)) (by decide)) (by decide)).mono ?_
 rintro e w2 ⟨hk2,u2,rfl,f2⟩
 obtain ⟨y0,y1,y2,y3,y4,y5,y6,y7,rfl⟩:=f2.shape
 have HK:=hid' (And.intro (HK.out.1.trans hk2) (HK.out.2.kept hk2))
 have H2:=hid' f2
 clear hk2 f2
 have hZ:=HK.out.2
 have g0:=hZ.c0
 have g1:=hZ.c1
 have g2:=hZ.c2
 have g3:=hZ.c3
 have z:=hZ.fz
 clear hZ
 go_wp2_with fail
 exact bodyPost_ret (v:=(.agg #[.bool y0,.slice y1 y2 y3,.bool y4,.slice y5 y6 y7])) (by simp [results,Tryz.results72,go_sem,g0,g1,g2,g3]) rfl ⟨kept_set4 HK.out.1 HP.out _ _ _ _,_,rfl,FT.put4 H2.out HK.out.2 _ _ _ _⟩
def FX (w:World) (v:Value) (N:Int) (D:Nat):Prop:=F.FIs w v N (D:Int) 160 160∧0 < D
theorem FX.kept {w w':World} {v:Value} {N:Int} {D:Nat} (h:FX w v N D) (k:Kept w w'):FX w' v N D:=⟨h.1.kept k,h.2⟩
theorem FX.shape {w:World} {v:Value} {N:Int} {D:Nat} (h:FX w v N D):∃ (s:Bool) (ao:Option Addr) (n c:Nat) (t:Bool) (ap:Option Addr) (n' c':Nat),v = .agg #[.bool s,.slice ao n c,.bool t,.slice ap n' c']:=by
 obtain ⟨⟨s,ao,n,c,t,ap,n',c',rfl,_⟩,_⟩:=h
 exact ⟨_,_,_,_,_,_,_,_,rfl⟩
theorem held_knot {v v':Value} {N:Int} {D:Nat} {x:Int × Int} (w:World) (h:FX w v N D) (h':FT w v' (U x.1 x.2 * 1000000000) (10 ^ 18)) :
  Calls Tryz.prog 41 #[v,v'] w fun e w' => Kept w w'∧e = .returned (.int .i64 (agn N D x)):=by
 obtain ⟨⟨s,a1,k1,c1,t,a2,k2,c2,rfl,n1,n2,l1,l2⟩,hD⟩:=h
 obtain ⟨N',D',⟨s',b1,k3,c3,t',b2,k4,c4,rfl,n3,n4,l3,l4⟩,p',_,e'⟩:=h'
 refine (F.FHeld_any s t s' t' a1 a2 b1 b2 k1 c1 k2 c2 k3 c3 k4 c4 N D N' D' w n1 n2 n3 n4 (by omega)).mono ?_
 rintro e0 w' ⟨hk,rfl⟩
 refine ⟨hk,?_⟩
 have q':(D'.toNat:Int) = D':=Int.toNat_of_nonneg (by omega)
 have h1:=isgn_one (N:=N) (N':=N') (A':=U x.1 x.2 * 1000000000) (D:=D) (D':=D'.toNat) (S:=10 ^ 18) (by omega) (by decide) (by rw [q']; exact e')
 rw [q'] at h1
 rw [h1]
 have e:isgn (N * ((10 ^ 18:Nat):Int)) (U x.1 x.2 * 1000000000 * (D:Int)) = agn N D x:=by
  unfold agn
  rw [Int.mul_right_comm (U x.1 x.2) 1000000000,Int.mul_right_comm (U x.1 x.2) (10 ^ 27)]
  generalize U x.1 x.2 * (D:Int) = y
  have e18:((10 ^ 18:Nat):Int) = 1000000000000000000:=by decide
  have e36:(10 ^ 36:Int) = 1000000000000000000000000000000000000:=by decide
  have e27:(10 ^ 27:Int) = 1000000000000000000000000000:=by decide
  rw [e18,e36,e27]
  exact F.isgn_eq (by omega) (by omega)
 rw [e]
set_option maxRecDepth 100000 in
set_option maxHeartbeats 8000000 in
theorem liesR_any (s:ByteArray) (k:Int) (a1 a2:Option Addr) (n c m c':Nat) (gs vs:List (Int × Int)) (i:Nat) (N:Int) (D:Nat) (u0:Bool) (u1:Option Addr) (u2 u3:Nat) (u4:Bool) (u5:Option Addr) (u6 u7:Nat) (w:World) (h1:NSl w (.slice a1 n c) gs) (h2:NSl w (.slice a2 m c') vs) (hn:n≤4611686018427387903) (hm:m≤4611686018427387903) (hnm:n = m + 1) (hi:i < n) (hv:∀ j,j < m→okN (vs.getD j (0,0)).1 (vs.getD j (0,0)).2 = true) (hu:FX w (.agg #[.bool u0,.slice u1 u2 u3,.bool u4,.slice u5 u6 u7]) N D) :
  Calls Tryz.prog 37 #[.agg #[.string s,.int .u8 k,.slice a1 n c,.slice a2 m c'],.int .i64 (i:Int),(.agg #[.bool u0,.slice u1 u2 u3,.bool u4,.slice u5 u6 u7])] w fun e w' => Kept w w'∧e = .returned (.int .i64 (sideS N D vs i)):=by
 have HS:=hid' (And.intro h1 h2)
 have HL:=hid' (show m = vs.length∧n = m + 1∧i < n from ⟨h2.len,hnm,hi⟩)
 have HV:=hid' hv
 have HU:=hid' hu
 have hi4:(i:Int) < 4611686018427387904:=by omega
 clear h1 h2 hv hu hnm
 go_enter Tryz.func37,Tryz.ntmps37
 go_upto_region 1 with fail
 have hM:=(Row4.alloc 24 w (.string s) (.int .u8 k) (.slice a1 n c) (.slice a2 m c')).kept ((Kept.refl (w.alloc (.cells #[.string s,.int .u8 k,.slice a1 n c,.slice a2 m c'] 24))).alloc (.cells #[.bool u0,.slice u1 u2 u3,.bool u4,.slice u5 u6 u7] 73))
 have hU:=F.FRow.alloc (w.alloc (.cells #[.string s,.int .u8 k,.slice a1 n c,.slice a2 m c'] 24)) (.bool u0) (.slice u1 u2 u3) (.bool u4) (.slice u5 u6 u7)
 have hK:=(((Kept.refl w).alloc (.cells #[.string s,.int .u8 k,.slice a1 n c,.slice a2 m c'] 24)).alloc (.cells #[.bool u0,.slice u1 u2 u3,.bool u4,.slice u5 u6 u7] 73))
 simp only [World.size_alloc] at hU
 generalize (w.alloc (.cells #[.string s,.int .u8 k,.slice a1 n c,.slice a2 m c'] 24)).alloc (.cells #[.bool u0,.slice u1 u2 u3,.bool u4,.slice u5 u6 u7] 73) = W at hM hU hK ⊢
 obtain ⟨q,hqq⟩:∃ q,q = w.heap.size + 1:=⟨_,rfl⟩
 rw [← hqq] at hU ⊢
 obtain ⟨p,hqp⟩:∃ q,q = w.heap.size:=⟨_,rfl⟩
 rw [← hqp] at hM ⊢
 have HK:=hid' (And.intro hK (And.intro hM (And.intro hU (HU.out.kept hK))))
 clear hqp hqq hM hU hK HU
 by_cases hi0:i = 0
 ·
  subst hi0
  have hz0:¬ (0:Int) < ((0:Nat):Int):=by omega
  go_upto_region 1 with fail
  have KR:Kept W W.drew:=(Kept.refl _).drew
  have sS:=hid' (fun (V:World) (K:Kept W V) => (show V.cell? ⟨p,0,none⟩ = some (.string s)∧V.cell? ⟨p,1,none⟩ = some (.int .u8 k)∧V.cell? ⟨p,2,none⟩ = some (.slice a1 n c)∧V.cell? ⟨p,3,none⟩ = some (.slice a2 m c')∧V.cell? ⟨q,0,none⟩ = some (.bool u0)∧V.cell? ⟨q,1,none⟩ = some (.slice u1 u2 u3)∧V.cell? ⟨q,2,none⟩ = some (.bool u4)∧V.cell? ⟨q,3,none⟩ = some (.slice u5 u6 u7) from by
   have r1:=HK.out.2.1.kept K
   have r2:=HK.out.2.2.1.kept K
   exact ⟨r1.c0,r1.c1,r1.c2,r1.c3,r2.c0,r2.c1,r2.c2,r2.c3⟩))
  refine wp_region_held_drew (S:=fun w' => w'.cell? ⟨p,0,none⟩ = some (.string s)∧w'.cell? ⟨p,1,none⟩ = some (.int .u8 k)∧w'.cell? ⟨p,2,none⟩ = some (.slice a1 n c)∧w'.cell? ⟨p,3,none⟩ = some (.slice a2 m c')∧w'.cell? ⟨q,0,none⟩ = some (.bool u0)∧w'.cell? ⟨q,1,none⟩ = some (.slice u1 u2 u3)∧w'.cell? ⟨q,2,none⟩ = some (.bool u4)∧w'.cell? ⟨q,3,none⟩ = some (.slice u5 u6 u7)) (by kernel_rfl) (sS.out _ KR) (fun hHeld => ?_)
  generalize W.drew = Wd at KR hHeld ⊢
  refine take1 (i:=0) (v:=?vr1nz2x1) rfl rfl (by kernel_rfl) (by kernel_rfl) (by kernel_rfl) (fun _ _ _ h => h) (Or.inl ⟨by kernel_rfl,?yr1nz2x1⟩) hHeld ?rr1nz2x1
  case yr1nz2x1 =>
   intro w' hSw
   obtain ⟨hSw0,hSw1,hSw2,hSw3,hSw4,hSw5,hSw6,hSw7⟩:=hSw
   go_simp
   with_reducible rfl
  case rr1nz2x1 =>
  simp only [List.set_cons_zero,List.set_cons_succ]
  refine take1 (i:=1) (v:=?vr1nz2x2) rfl rfl (by kernel_rfl) (by kernel_rfl) (by kernel_rfl) (fun _ _ _ h => h) (Or.inl ⟨by kernel_rfl,?yr1nz2x2⟩) hHeld ?rr1nz2x2
  case yr1nz2x2 =>
   intro w' hSw
   obtain ⟨hSw0,hSw1,hSw2,hSw3,hSw4,hSw5,hSw6,hSw7⟩:=hSw
   go_simp
   with_reducible rfl
  case rr1nz2x2 =>
  simp only [List.set_cons_zero,List.set_cons_succ]
  refine take1 (i:=2) (v:=?vr1nz2x3) rfl rfl (by kernel_rfl) (by kernel_rfl) (by kernel_rfl) (fun _ _ _ h => h) (Or.inl ⟨by kernel_rfl,?yr1nz2x3⟩) hHeld ?rr1nz2x3
  case yr1nz2x3 =>
   intro w' hSw
   obtain ⟨hSw0,hSw1,hSw2,hSw3,hSw4,hSw5,hSw6,hSw7⟩:=hSw
   go_simp
   with_reducible rfl
  case rr1nz2x3 =>
  simp only [List.set_cons_zero,List.set_cons_succ]
  refine take1 (i:=3) (v:=undef) rfl rfl (by kernel_rfl) (by kernel_rfl) (by kernel_rfl) (fun _ _ _ h => h) (Or.inr ⟨by kernel_rfl,rfl⟩) hHeld ?rr1nz2x4
  case rr1nz2x4 =>
  simp only [List.set_cons_zero,List.set_cons_succ]
  refine take1 (i:=4) (v:=undef) rfl rfl (by kernel_rfl) (by kernel_rfl) (by kernel_rfl) (fun _ _ _ h => h) (Or.inr ⟨by kernel_rfl,rfl⟩) hHeld ?rr1nz2x5
  case rr1nz2x5 =>
  simp only [List.set_cons_zero,List.set_cons_succ]
  refine take1 (i:=5) (v:=undef) rfl rfl (by kernel_rfl) (by kernel_rfl) (by kernel_rfl) (fun _ _ _ h => h) (Or.inr ⟨by kernel_rfl,rfl⟩) hHeld ?rr1nz2x6
  case rr1nz2x6 =>
  simp only [List.set_cons_zero,List.set_cons_succ]
  refine take1 (i:=6) (v:=undef) rfl rfl (by kernel_rfl) (by kernel_rfl) (by kernel_rfl) (fun _ _ _ h => h) (Or.inr ⟨by kernel_rfl,rfl⟩) hHeld ?rr1nz2x7
  case rr1nz2x7 =>
  simp only [List.set_cons_zero,List.set_cons_succ]
  refine take1 (i:=7) (v:=undef) rfl rfl (by kernel_rfl) (by kernel_rfl) (by kernel_rfl) (fun _ _ _ h => h) (Or.inr ⟨by kernel_rfl,rfl⟩) hHeld ?rr1nz2x8
  case rr1nz2x8 =>
  simp only [List.set_cons_zero,List.set_cons_succ]
  refine take1 (i:=8) (v:=undef) rfl rfl (by kernel_rfl) (by kernel_rfl) (by kernel_rfl) (fun _ _ _ h => h) (Or.inr ⟨by kernel_rfl,rfl⟩) hHeld ?rr1nz2x9
  case rr1nz2x9 =>
  simp only [List.set_cons_zero,List.set_cons_succ]
  refine take1 (i:=9) (v:=undef) rfl rfl (by kernel_rfl) (by kernel_rfl) (by kernel_rfl) (fun _ _ _ h => h) (Or.inr ⟨by kernel_rfl,rfl⟩) hHeld ?rr1nz2x10
  case rr1nz2x10 =>
  simp only [List.set_cons_zero,List.set_cons_succ]
  refine take1 (i:=10) (v:=?vr1nz2x11) rfl rfl (by kernel_rfl) (by kernel_rfl) (by kernel_rfl) (fun _ _ _ h => h) (Or.inl ⟨by kernel_rfl,?yr1nz2x11⟩) hHeld ?rr1nz2x11
  case yr1nz2x11 =>
   intro w' hSw
   obtain ⟨hSw0,hSw1,hSw2,hSw3,hSw4,hSw5,hSw6,hSw7⟩:=hSw
   go_simp
   with_reducible rfl
  case rr1nz2x11 =>
  simp only [List.set_cons_zero,List.set_cons_succ]
  refine wpAnyH_done (by kernel_rfl) ?_ _
  have HK:=hid' (And.intro (HK.out.1.trans KR) (And.intro (HK.out.2.1.kept KR) (And.intro (HK.out.2.2.1.kept KR) (HK.out.2.2.2.kept KR))))
  clear sS hHeld
  generalize Wd = W3 at HK ⊢
  clear KR
  have hw1:IntKind.i64.wrap ((n:Int) - 1) = (n:Int) - 1:=by rw [IntKind.wrap_i64]; omega
  by_cases him:0 < n - 1
  ·
   have HIM:=hid' him
   have him':((0:Nat):Int) < (n:Int) - 1:=by omega
   have him2:(1:Int) < (n:Int):=by have:=HIM.out; omega
   clear him
   go_upto_region 3 with fail
   have KR:Kept W3 W3.drew:=(Kept.refl _).drew
   have sS:=hid' (fun (V:World) (K:Kept W3 V) => (show V.cell? ⟨p,0,none⟩ = some (.string s)∧V.cell? ⟨p,1,none⟩ = some (.int .u8 k)∧V.cell? ⟨p,2,none⟩ = some (.slice a1 n c)∧V.cell? ⟨p,3,none⟩ = some (.slice a2 m c')∧V.cell? ⟨q,0,none⟩ = some (.bool u0)∧V.cell? ⟨q,1,none⟩ = some (.slice u1 u2 u3)∧V.cell? ⟨q,2,none⟩ = some (.bool u4)∧V.cell? ⟨q,3,none⟩ = some (.slice u5 u6 u7) from by
    have r1:=HK.out.2.1.kept K
    have r2:=HK.out.2.2.1.kept K
    exact ⟨r1.c0,r1.c1,r1.c2,r1.c3,r2.c0,r2.c1,r2.c2,r2.c3⟩))
   refine wp_region_held_drew (S:=fun w' => w'.cell? ⟨p,0,none⟩ = some (.string s)∧w'.cell? ⟨p,1,none⟩ = some (.int .u8 k)∧w'.cell? ⟨p,2,none⟩ = some (.slice a1 n c)∧w'.cell? ⟨p,3,none⟩ = some (.slice a2 m c')∧w'.cell? ⟨q,0,none⟩ = some (.bool u0)∧w'.cell? ⟨q,1,none⟩ = some (.slice u1 u2 u3)∧w'.cell? ⟨q,2,none⟩ = some (.bool u4)∧w'.cell? ⟨q,3,none⟩ = some (.slice u5 u6 u7)) (by kernel_rfl) (sS.out _ KR) (fun hHeld => ?_)
   generalize W3.drew = Wd at KR hHeld ⊢
   refine take1 (i:=0) (v:=?vr3yag20x1) rfl rfl (by kernel_rfl) (by kernel_rfl) (by kernel_rfl) (fun _ _ _ h => h) (Or.inl ⟨by kernel_rfl,?yr3yag20x1⟩) hHeld ?rr3yag20x1
   case yr3yag20x1 =>
    intro w' hSw
    obtain ⟨hSw0,hSw1,hSw2,hSw3,hSw4,hSw5,hSw6,hSw7⟩:=hSw
    go_simp
    with_reducible rfl
   case rr3yag20x1 =>
   simp only [List.set_cons_zero,List.set_cons_succ]
   refine take1 (i:=1) (v:=?vr3yag20x2) rfl rfl (by kernel_rfl) (by kernel_rfl) (by kernel_rfl) (fun _ _ _ h => h) (Or.inl ⟨by kernel_rfl,?yr3yag20x2⟩) hHeld ?rr3yag20x2
   case yr3yag20x2 =>
    intro w' hSw
    obtain ⟨hSw0,hSw1,hSw2,hSw3,hSw4,hSw5,hSw6,hSw7⟩:=hSw
    go_simp
    with_reducible rfl
   case rr3yag20x2 =>
   simp only [List.set_cons_zero,List.set_cons_succ]
   refine take1 (i:=2) (v:=?vr3yag20x3) rfl rfl (by kernel_rfl) (by kernel_rfl) (by kernel_rfl) (fun _ _ _ h => h) (Or.inl ⟨by kernel_rfl,?yr3yag20x3⟩) hHeld ?rr3yag20x3
   case yr3yag20x3 =>
    intro w' hSw
    obtain ⟨hSw0,hSw1,hSw2,hSw3,hSw4,hSw5,hSw6,hSw7⟩:=hSw
    go_simp
    with_reducible rfl
   case rr3yag20x3 =>
   simp only [List.set_cons_zero,List.set_cons_succ]
   refine take1 (i:=3) (v:=?vr3yag20x4) rfl rfl (by kernel_rfl) (by kernel_rfl) (by kernel_rfl) (fun _ _ _ h => h) (Or.inl ⟨by kernel_rfl,?yr3yag20x4⟩) hHeld ?rr3yag20x4
   case yr3yag20x4 =>
    intro w' hSw
    obtain ⟨hSw0,hSw1,hSw2,hSw3,hSw4,hSw5,hSw6,hSw7⟩:=hSw
    go_simp
    with_reducible rfl
   case rr3yag20x4 =>
   simp only [List.set_cons_zero,List.set_cons_succ]
   refine take1 (i:=4) (v:=?vr3yag20x5) rfl rfl (by kernel_rfl) (by kernel_rfl) (by kernel_rfl) (fun _ _ _ h => h) (Or.inl ⟨by kernel_rfl,?yr3yag20x5⟩) hHeld ?rr3yag20x5
   case yr3yag20x5 =>
    intro w' hSw
    obtain ⟨hSw0,hSw1,hSw2,hSw3,hSw4,hSw5,hSw6,hSw7⟩:=hSw
    go_simp
    with_reducible rfl
   case rr3yag20x5 =>
   simp only [List.set_cons_zero,List.set_cons_succ]
   refine take1 (i:=5) (v:=?vr3yag20x6) rfl rfl (by kernel_rfl) (by kernel_rfl) (by kernel_rfl) (fun _ _ _ h => h) (Or.inl ⟨by kernel_rfl,?yr3yag20x6⟩) hHeld ?rr3yag20x6
   case yr3yag20x6 =>
    intro w' hSw
    obtain ⟨hSw0,hSw1,hSw2,hSw3,hSw4,hSw5,hSw6,hSw7⟩:=hSw
    go_simp
    with_reducible rfl
   case rr3yag20x6 =>
   simp only [List.set_cons_zero,List.set_cons_succ]
   refine take1 (i:=6) (v:=?vr3yag20x7) rfl rfl (by kernel_rfl) (by kernel_rfl) (by kernel_rfl) (fun _ _ _ h => h) (Or.inl ⟨by kernel_rfl,?yr3yag20x7⟩) hHeld ?rr3yag20x7
   case yr3yag20x7 =>
    intro w' hSw
    obtain ⟨hSw0,hSw1,hSw2,hSw3,hSw4,hSw5,hSw6,hSw7⟩:=hSw
    go_simp
    with_reducible rfl
   case rr3yag20x7 =>
   simp only [List.set_cons_zero,List.set_cons_succ]
   refine take1 (i:=7) (v:=?vr3yag20x8) rfl rfl (by kernel_rfl) (by kernel_rfl) (by kernel_rfl) (fun _ _ _ h => h) (Or.inl ⟨by kernel_rfl,?yr3yag20x8⟩) hHeld ?rr3yag20x8
   case yr3yag20x8 =>
    intro w' hSw
    obtain ⟨hSw0,hSw1,hSw2,hSw3,hSw4,hSw5,hSw6,hSw7⟩:=hSw
    go_simp
    with_reducible rfl
   case rr3yag20x8 =>
   simp only [List.set_cons_zero,List.set_cons_succ]
   refine take1 (i:=8) (v:=?vr3yag20x9) rfl rfl (by kernel_rfl) (by kernel_rfl) (by kernel_rfl) (fun _ _ _ h => h) (Or.inl ⟨by kernel_rfl,?yr3yag20x9⟩) hHeld ?rr3yag20x9
   case yr3yag20x9 =>
    intro w' hSw
    obtain ⟨hSw0,hSw1,hSw2,hSw3,hSw4,hSw5,hSw6,hSw7⟩:=hSw
    go_simp
    with_reducible rfl
   case rr3yag20x9 =>
   simp only [List.set_cons_zero,List.set_cons_succ]
   refine take1 (i:=9) (v:=?vr3yag20x10) rfl rfl (by kernel_rfl) (by kernel_rfl) (by kernel_rfl) (fun _ _ _ h => h) (Or.inl ⟨by kernel_rfl,?yr3yag20x10⟩) hHeld ?rr3yag20x10
   case yr3yag20x10 =>
    intro w' hSw
    obtain ⟨hSw0,hSw1,hSw2,hSw3,hSw4,hSw5,hSw6,hSw7⟩:=hSw
    go_simp
    with_reducible rfl
   case rr3yag20x10 =>
   simp only [List.set_cons_zero,List.set_cons_succ]
   refine ready1 (i:=10) (by kernel_rfl) rfl (by kernel_rfl) (fun K hK => ?_)
   go_simp
   refine (knotR_any s k a1 a2 n c m c' vs (0) _ (HS.out.2.kept (HK.out.1.trans KR)) (by have:=HL.out; omega) (HV.out (0) (by have:=HL.out; omega))).mono ?_
   rintro e wk1 ⟨hkk,uk,rfl,fk⟩
   have KR:=KR.trans hkk
   refine hK.out _ _ (sS.out _ KR) (fun hHeld => ?_)
   clear hK K hkk
   refine ready1 (i:=11) (by kernel_rfl) rfl (by kernel_rfl) (fun K hK => ?_)
   go_simp
   refine (held_knot _ (HK.out.2.2.2.kept KR) fk).mono ?_
   rintro e W4 ⟨hkk,rfl⟩
   have KR:=KR.trans hkk
   obtain ⟨ag2,hag2⟩:∃ ag,ag = agn N D (vs.getD (0) (0,0)):=⟨_,rfl⟩
   rw [← hag2]
   have Hag2:=hid' hag2
   refine hK.out _ _ (sS.out _ KR) (fun hHeld => ?_)
   have HK:=hid' (And.intro (HK.out.1.trans KR) (And.intro (HK.out.2.1.kept KR) (And.intro (HK.out.2.2.1.kept KR) (HK.out.2.2.2.kept KR))))
   clear hK K hkk fk hag2 KR sS
   by_cases g2:0 < ag2
   ·
    have HG2:=hid' g2
    refine take1 (i:=12) (v:=?vr3yag20x11) rfl rfl (by kernel_rfl) (by kernel_rfl) (by kernel_rfl) (fun _ _ _ h => h) (Or.inl ⟨by kernel_rfl,?yr3yag20x11⟩) hHeld ?rr3yag20x11
    case yr3yag20x11 =>
     intro w' hSw
     obtain ⟨hSw0,hSw1,hSw2,hSw3,hSw4,hSw5,hSw6,hSw7⟩:=hSw
     go_simp
     with_reducible rfl
    case rr3yag20x11 =>
    simp only [List.set_cons_zero,List.set_cons_succ]
    refine take1 (i:=13) (v:=?vr3yag20x12) rfl rfl (by kernel_rfl) (by kernel_rfl) (by kernel_rfl) (fun _ _ _ h => h) (Or.inl ⟨by kernel_rfl,?yr3yag20x12⟩) hHeld ?rr3yag20x12
    case yr3yag20x12 =>
     intro w' hSw
     obtain ⟨hSw0,hSw1,hSw2,hSw3,hSw4,hSw5,hSw6,hSw7⟩:=hSw
     go_simp
     with_reducible rfl
    case rr3yag20x12 =>
    simp only [List.set_cons_zero,List.set_cons_succ]
    refine wpAnyH_done (by kernel_rfl) ?_ _
    clear hHeld
    go_wp2_with fail
    go_ret
    refine ⟨HK.out.1,congrArg (fun z => Ending.returned (Value.int IntKind.i64 z)) ?_⟩
    symm
    unfold sideS; rw [if_neg (fun h => absurd h.1 (by omega)),if_pos ⟨by have:=HIM.out; have:=HL.out; omega,by rw [← Hag2.out]; exact HG2.out⟩]
   ·
    have HG2:=hid' g2
    refine take1 (i:=12) (v:=?vr3yag20x13) rfl rfl (by kernel_rfl) (by kernel_rfl) (by kernel_rfl) (fun _ _ _ h => h) (Or.inl ⟨by kernel_rfl,?yr3yag20x13⟩) hHeld ?rr3yag20x13
    case yr3yag20x13 =>
     intro w' hSw
     obtain ⟨hSw0,hSw1,hSw2,hSw3,hSw4,hSw5,hSw6,hSw7⟩:=hSw
     go_simp
     with_reducible rfl
    case rr3yag20x13 =>
    simp only [List.set_cons_zero,List.set_cons_succ]
    refine take1 (i:=13) (v:=?vr3yag20x14) rfl rfl (by kernel_rfl) (by kernel_rfl) (by kernel_rfl) (fun _ _ _ h => h) (Or.inl ⟨by kernel_rfl,?yr3yag20x14⟩) hHeld ?rr3yag20x14
    case yr3yag20x14 =>
     intro w' hSw
     obtain ⟨hSw0,hSw1,hSw2,hSw3,hSw4,hSw5,hSw6,hSw7⟩:=hSw
     go_simp
     with_reducible rfl
    case rr3yag20x14 =>
    simp only [List.set_cons_zero,List.set_cons_succ]
    refine wpAnyH_done (by kernel_rfl) ?_ _
    clear hHeld
    go_wp2_with fail
    go_ret
    refine ⟨HK.out.1,congrArg (fun z => Ending.returned (Value.int IntKind.i64 z)) ?_⟩
    symm
    unfold sideS; rw [if_neg (fun h => absurd h.1 (by omega)),if_neg (fun h => by have:=HG2.out; have h2:=h.2; rw [← Hag2.out] at h2; omega)]
  ·
   have HIM:=hid' him
   have him':¬ ((0:Nat):Int) < (n:Int) - 1:=by have:=HL.out; omega
   have him2:¬ (1:Int) < (n:Int):=by have:=HIM.out; omega
   clear him
   go_upto_region 3 with fail
   have KR:Kept W3 W3.drew:=(Kept.refl _).drew
   have sS:=hid' (fun (V:World) (K:Kept W3 V) => (show V.cell? ⟨p,0,none⟩ = some (.string s)∧V.cell? ⟨p,1,none⟩ = some (.int .u8 k)∧V.cell? ⟨p,2,none⟩ = some (.slice a1 n c)∧V.cell? ⟨p,3,none⟩ = some (.slice a2 m c')∧V.cell? ⟨q,0,none⟩ = some (.bool u0)∧V.cell? ⟨q,1,none⟩ = some (.slice u1 u2 u3)∧V.cell? ⟨q,2,none⟩ = some (.bool u4)∧V.cell? ⟨q,3,none⟩ = some (.slice u5 u6 u7) from by
    have r1:=HK.out.2.1.kept K
    have r2:=HK.out.2.2.1.kept K
    exact ⟨r1.c0,r1.c1,r1.c2,r1.c3,r2.c0,r2.c1,r2.c2,r2.c3⟩))
   refine wp_region_held_drew (S:=fun w' => w'.cell? ⟨p,0,none⟩ = some (.string s)∧w'.cell? ⟨p,1,none⟩ = some (.int .u8 k)∧w'.cell? ⟨p,2,none⟩ = some (.slice a1 n c)∧w'.cell? ⟨p,3,none⟩ = some (.slice a2 m c')∧w'.cell? ⟨q,0,none⟩ = some (.bool u0)∧w'.cell? ⟨q,1,none⟩ = some (.slice u1 u2 u3)∧w'.cell? ⟨q,2,none⟩ = some (.bool u4)∧w'.cell? ⟨q,3,none⟩ = some (.slice u5 u6 u7)) (by kernel_rfl) (sS.out _ KR) (fun hHeld => ?_)
   generalize W3.drew = Wd at KR hHeld ⊢
   refine take1 (i:=0) (v:=?vr3nz1x1) rfl rfl (by kernel_rfl) (by kernel_rfl) (by kernel_rfl) (fun _ _ _ h => h) (Or.inl ⟨by kernel_rfl,?yr3nz1x1⟩) hHeld ?rr3nz1x1
   case yr3nz1x1 =>
    intro w' hSw
    obtain ⟨hSw0,hSw1,hSw2,hSw3,hSw4,hSw5,hSw6,hSw7⟩:=hSw
    go_simp
    with_reducible rfl
   case rr3nz1x1 =>
   simp only [List.set_cons_zero,List.set_cons_succ]
   refine take1 (i:=1) (v:=?vr3nz1x2) rfl rfl (by kernel_rfl) (by kernel_rfl) (by kernel_rfl) (fun _ _ _ h => h) (Or.inl ⟨by kernel_rfl,?yr3nz1x2⟩) hHeld ?rr3nz1x2
   case yr3nz1x2 =>
    intro w' hSw
    obtain ⟨hSw0,hSw1,hSw2,hSw3,hSw4,hSw5,hSw6,hSw7⟩:=hSw
    go_simp
    with_reducible rfl
   case rr3nz1x2 =>
   simp only [List.set_cons_zero,List.set_cons_succ]
   refine take1 (i:=2) (v:=?vr3nz1x3) rfl rfl (by kernel_rfl) (by kernel_rfl) (by kernel_rfl) (fun _ _ _ h => h) (Or.inl ⟨by kernel_rfl,?yr3nz1x3⟩) hHeld ?rr3nz1x3
   case yr3nz1x3 =>
    intro w' hSw
    obtain ⟨hSw0,hSw1,hSw2,hSw3,hSw4,hSw5,hSw6,hSw7⟩:=hSw
    go_simp
    with_reducible rfl
   case rr3nz1x3 =>
   simp only [List.set_cons_zero,List.set_cons_succ]
   refine take1 (i:=3) (v:=?vr3nz1x4) rfl rfl (by kernel_rfl) (by kernel_rfl) (by kernel_rfl) (fun _ _ _ h => h) (Or.inl ⟨by kernel_rfl,?yr3nz1x4⟩) hHeld ?rr3nz1x4
   case yr3nz1x4 =>
    intro w' hSw
    obtain ⟨hSw0,hSw1,hSw2,hSw3,hSw4,hSw5,hSw6,hSw7⟩:=hSw
    go_simp
    with_reducible rfl
   case rr3nz1x4 =>
   simp only [List.set_cons_zero,List.set_cons_succ]
   refine take1 (i:=4) (v:=?vr3nz1x5) rfl rfl (by kernel_rfl) (by kernel_rfl) (by kernel_rfl) (fun _ _ _ h => h) (Or.inl ⟨by kernel_rfl,?yr3nz1x5⟩) hHeld ?rr3nz1x5
   case yr3nz1x5 =>
    intro w' hSw
    obtain ⟨hSw0,hSw1,hSw2,hSw3,hSw4,hSw5,hSw6,hSw7⟩:=hSw
    go_simp
    with_reducible rfl
   case rr3nz1x5 =>
   simp only [List.set_cons_zero,List.set_cons_succ]
   refine take1 (i:=5) (v:=?vr3nz1x6) rfl rfl (by kernel_rfl) (by kernel_rfl) (by kernel_rfl) (fun _ _ _ h => h) (Or.inl ⟨by kernel_rfl,?yr3nz1x6⟩) hHeld ?rr3nz1x6
   case yr3nz1x6 =>
    intro w' hSw
    obtain ⟨hSw0,hSw1,hSw2,hSw3,hSw4,hSw5,hSw6,hSw7⟩:=hSw
    go_simp
    with_reducible rfl
   case rr3nz1x6 =>
   simp only [List.set_cons_zero,List.set_cons_succ]
   refine take1 (i:=6) (v:=?vr3nz1x7) rfl rfl (by kernel_rfl) (by kernel_rfl) (by kernel_rfl) (fun _ _ _ h => h) (Or.inl ⟨by kernel_rfl,?yr3nz1x7⟩) hHeld ?rr3nz1x7
   case yr3nz1x7 =>
    intro w' hSw
    obtain ⟨hSw0,hSw1,hSw2,hSw3,hSw4,hSw5,hSw6,hSw7⟩:=hSw
    go_simp
    with_reducible rfl
   case rr3nz1x7 =>
   simp only [List.set_cons_zero,List.set_cons_succ]
   refine take1 (i:=7) (v:=undef) rfl rfl (by kernel_rfl) (by kernel_rfl) (by kernel_rfl) (fun _ _ _ h => h) (Or.inr ⟨by kernel_rfl,rfl⟩) hHeld ?rr3nz1x8
   case rr3nz1x8 =>
   simp only [List.set_cons_zero,List.set_cons_succ]
   refine take1 (i:=8) (v:=undef) rfl rfl (by kernel_rfl) (by kernel_rfl) (by kernel_rfl) (fun _ _ _ h => h) (Or.inr ⟨by kernel_rfl,rfl⟩) hHeld ?rr3nz1x9
   case rr3nz1x9 =>
   simp only [List.set_cons_zero,List.set_cons_succ]
   refine take1 (i:=9) (v:=undef) rfl rfl (by kernel_rfl) (by kernel_rfl) (by kernel_rfl) (fun _ _ _ h => h) (Or.inr ⟨by kernel_rfl,rfl⟩) hHeld ?rr3nz1x10
   case rr3nz1x10 =>
   simp only [List.set_cons_zero,List.set_cons_succ]
   refine take1 (i:=10) (v:=undef) rfl rfl (by kernel_rfl) (by kernel_rfl) (by kernel_rfl) (fun _ _ _ h => h) (Or.inr ⟨by kernel_rfl,rfl⟩) hHeld ?rr3nz1x11
   case rr3nz1x11 =>
   simp only [List.set_cons_zero,List.set_cons_succ]
   refine take1 (i:=11) (v:=undef) rfl rfl (by kernel_rfl) (by kernel_rfl) (by kernel_rfl) (fun _ _ _ h => h) (Or.inr ⟨by kernel_rfl,rfl⟩) hHeld ?rr3nz1x12
   case rr3nz1x12 =>
   simp only [List.set_cons_zero,List.set_cons_succ]
   refine take1 (i:=12) (v:=undef) rfl rfl (by kernel_rfl) (by kernel_rfl) (by kernel_rfl) (fun _ _ _ h => h) (Or.inr ⟨by kernel_rfl,rfl⟩) hHeld ?rr3nz1x13
   case rr3nz1x13 =>
   simp only [List.set_cons_zero,List.set_cons_succ]
   refine take1 (i:=13) (v:=?vr3nz1x14) rfl rfl (by kernel_rfl) (by kernel_rfl) (by kernel_rfl) (fun _ _ _ h => h) (Or.inl ⟨by kernel_rfl,?yr3nz1x14⟩) hHeld ?rr3nz1x14
   case yr3nz1x14 =>
    intro w' hSw
    obtain ⟨hSw0,hSw1,hSw2,hSw3,hSw4,hSw5,hSw6,hSw7⟩:=hSw
    go_simp
    with_reducible rfl
   case rr3nz1x14 =>
   simp only [List.set_cons_zero,List.set_cons_succ]
   refine wpAnyH_done (by kernel_rfl) ?_ _
   have HK:=hid' (And.intro (HK.out.1.trans KR) (And.intro (HK.out.2.1.kept KR) (And.intro (HK.out.2.2.1.kept KR) (HK.out.2.2.2.kept KR))))
   clear sS hHeld
   generalize Wd = W4 at HK ⊢
   clear KR
   go_wp2_with fail
   go_ret
   refine ⟨HK.out.1,congrArg (fun z => Ending.returned (Value.int IntKind.i64 z)) ?_⟩
   symm
   unfold sideS; rw [if_neg (fun h => absurd h.1 (by omega)),if_neg (fun h => by have h1:=h.1; have:=HIM.out; have:=HL.out; omega)]
 ·
  obtain ⟨i0,rfl⟩:∃ i0,i = i0 + 1:=⟨i - 1,by omega⟩
  have ec:((i0 + 1:Nat):Int) = (i0:Int) + 1:=by omega
  rw [ec]
  have hi1:(0:Int) < (i0:Int) + 1:=by omega
  have hi2:(i0:Int) + 1 - 1 = (i0:Int):=by omega
  have hi3:IntKind.i64.wrap (i0:Int) = (i0:Int):=by rw [IntKind.wrap_i64]; omega
  clear hi0 ec hi4
  go_upto_region 1 with fail
  have KR:Kept W W.drew:=(Kept.refl _).drew
  have sS:=hid' (fun (V:World) (K:Kept W V) => (show V.cell? ⟨p,0,none⟩ = some (.string s)∧V.cell? ⟨p,1,none⟩ = some (.int .u8 k)∧V.cell? ⟨p,2,none⟩ = some (.slice a1 n c)∧V.cell? ⟨p,3,none⟩ = some (.slice a2 m c')∧V.cell? ⟨q,0,none⟩ = some (.bool u0)∧V.cell? ⟨q,1,none⟩ = some (.slice u1 u2 u3)∧V.cell? ⟨q,2,none⟩ = some (.bool u4)∧V.cell? ⟨q,3,none⟩ = some (.slice u5 u6 u7) from by
   have r1:=HK.out.2.1.kept K
   have r2:=HK.out.2.2.1.kept K
   exact ⟨r1.c0,r1.c1,r1.c2,r1.c3,r2.c0,r2.c1,r2.c2,r2.c3⟩))
  refine wp_region_held_drew (S:=fun w' => w'.cell? ⟨p,0,none⟩ = some (.string s)∧w'.cell? ⟨p,1,none⟩ = some (.int .u8 k)∧w'.cell? ⟨p,2,none⟩ = some (.slice a1 n c)∧w'.cell? ⟨p,3,none⟩ = some (.slice a2 m c')∧w'.cell? ⟨q,0,none⟩ = some (.bool u0)∧w'.cell? ⟨q,1,none⟩ = some (.slice u1 u2 u3)∧w'.cell? ⟨q,2,none⟩ = some (.bool u4)∧w'.cell? ⟨q,3,none⟩ = some (.slice u5 u6 u7)) (by kernel_rfl) (sS.out _ KR) (fun hHeld => ?_)
  generalize W.drew = Wd at KR hHeld ⊢
  refine take1 (i:=0) (v:=?vr1yag13x1) rfl rfl (by kernel_rfl) (by kernel_rfl) (by kernel_rfl) (fun _ _ _ h => h) (Or.inl ⟨by kernel_rfl,?yr1yag13x1⟩) hHeld ?rr1yag13x1
  case yr1yag13x1 =>
   intro w' hSw
   obtain ⟨hSw0,hSw1,hSw2,hSw3,hSw4,hSw5,hSw6,hSw7⟩:=hSw
   go_simp
   with_reducible rfl
  case rr1yag13x1 =>
  simp only [List.set_cons_zero,List.set_cons_succ]
  refine take1 (i:=1) (v:=?vr1yag13x2) rfl rfl (by kernel_rfl) (by kernel_rfl) (by kernel_rfl) (fun _ _ _ h => h) (Or.inl ⟨by kernel_rfl,?yr1yag13x2⟩) hHeld ?rr1yag13x2
  case yr1yag13x2 =>
   intro w' hSw
   obtain ⟨hSw0,hSw1,hSw2,hSw3,hSw4,hSw5,hSw6,hSw7⟩:=hSw
   go_simp
   with_reducible rfl
  case rr1yag13x2 =>
  simp only [List.set_cons_zero,List.set_cons_succ]
  refine take1 (i:=2) (v:=?vr1yag13x3) rfl rfl (by kernel_rfl) (by kernel_rfl) (by kernel_rfl) (fun _ _ _ h => h) (Or.inl ⟨by kernel_rfl,?yr1yag13x3⟩) hHeld ?rr1yag13x3
  case yr1yag13x3 =>
   intro w' hSw
   obtain ⟨hSw0,hSw1,hSw2,hSw3,hSw4,hSw5,hSw6,hSw7⟩:=hSw
   go_simp
   with_reducible rfl
  case rr1yag13x3 =>
  simp only [List.set_cons_zero,List.set_cons_succ]
  refine take1 (i:=3) (v:=?vr1yag13x4) rfl rfl (by kernel_rfl) (by kernel_rfl) (by kernel_rfl) (fun _ _ _ h => h) (Or.inl ⟨by kernel_rfl,?yr1yag13x4⟩) hHeld ?rr1yag13x4
  case yr1yag13x4 =>
   intro w' hSw
   obtain ⟨hSw0,hSw1,hSw2,hSw3,hSw4,hSw5,hSw6,hSw7⟩:=hSw
   go_simp
   with_reducible rfl
  case rr1yag13x4 =>
  simp only [List.set_cons_zero,List.set_cons_succ]
  refine take1 (i:=4) (v:=?vr1yag13x5) rfl rfl (by kernel_rfl) (by kernel_rfl) (by kernel_rfl) (fun _ _ _ h => h) (Or.inl ⟨by kernel_rfl,?yr1yag13x5⟩) hHeld ?rr1yag13x5
  case yr1yag13x5 =>
   intro w' hSw
   obtain ⟨hSw0,hSw1,hSw2,hSw3,hSw4,hSw5,hSw6,hSw7⟩:=hSw
   go_simp
   with_reducible rfl
  case rr1yag13x5 =>
  simp only [List.set_cons_zero,List.set_cons_succ]
  refine take1 (i:=5) (v:=?vr1yag13x6) rfl rfl (by kernel_rfl) (by kernel_rfl) (by kernel_rfl) (fun _ _ _ h => h) (Or.inl ⟨by kernel_rfl,?yr1yag13x6⟩) hHeld ?rr1yag13x6
  case yr1yag13x6 =>
   intro w' hSw
   obtain ⟨hSw0,hSw1,hSw2,hSw3,hSw4,hSw5,hSw6,hSw7⟩:=hSw
   go_simp
   with_reducible rfl
  case rr1yag13x6 =>
  simp only [List.set_cons_zero,List.set_cons_succ]
  refine take1 (i:=6) (v:=?vr1yag13x7) rfl rfl (by kernel_rfl) (by kernel_rfl) (by kernel_rfl) (fun _ _ _ h => h) (Or.inl ⟨by kernel_rfl,?yr1yag13x7⟩) hHeld ?rr1yag13x7
  case yr1yag13x7 =>
   intro w' hSw
   obtain ⟨hSw0,hSw1,hSw2,hSw3,hSw4,hSw5,hSw6,hSw7⟩:=hSw
   go_simp
   with_reducible rfl
  case rr1yag13x7 =>
  simp only [List.set_cons_zero,List.set_cons_succ]
  refine ready1 (i:=7) (by kernel_rfl) rfl (by kernel_rfl) (fun K hK => ?_)
  go_simp
  refine (knotR_any s k a1 a2 n c m c' vs (i0) _ (HS.out.2.kept (HK.out.1.trans KR)) (by have:=HL.out; omega) (HV.out (i0) (by have:=HL.out; omega))).mono ?_
  rintro e wk4 ⟨hkk,uk,rfl,fk⟩
  have KR:=KR.trans hkk
  refine hK.out _ _ (sS.out _ KR) (fun hHeld => ?_)
  clear hK K hkk
  refine ready1 (i:=8) (by kernel_rfl) rfl (by kernel_rfl) (fun K hK => ?_)
  go_simp
  refine (held_knot _ (HK.out.2.2.2.kept KR) fk).mono ?_
  rintro e W3 ⟨hkk,rfl⟩
  have KR:=KR.trans hkk
  obtain ⟨ag1,hag1⟩:∃ ag,ag = agn N D (vs.getD (i0) (0,0)):=⟨_,rfl⟩
  rw [← hag1]
  have Hag1:=hid' hag1
  refine hK.out _ _ (sS.out _ KR) (fun hHeld => ?_)
  have HK:=hid' (And.intro (HK.out.1.trans KR) (And.intro (HK.out.2.1.kept KR) (And.intro (HK.out.2.2.1.kept KR) (HK.out.2.2.2.kept KR))))
  clear hK K hkk fk hag1 KR sS
  by_cases g1:ag1 < 0
  ·
   have HG1:=hid' g1
   refine take1 (i:=9) (v:=?vr1yag13x8) rfl rfl (by kernel_rfl) (by kernel_rfl) (by kernel_rfl) (fun _ _ _ h => h) (Or.inl ⟨by kernel_rfl,?yr1yag13x8⟩) hHeld ?rr1yag13x8
   case yr1yag13x8 =>
    intro w' hSw
    obtain ⟨hSw0,hSw1,hSw2,hSw3,hSw4,hSw5,hSw6,hSw7⟩:=hSw
    go_simp
    with_reducible rfl
   case rr1yag13x8 =>
   simp only [List.set_cons_zero,List.set_cons_succ]
   refine take1 (i:=10) (v:=?vr1yag13x9) rfl rfl (by kernel_rfl) (by kernel_rfl) (by kernel_rfl) (fun _ _ _ h => h) (Or.inl ⟨by kernel_rfl,?yr1yag13x9⟩) hHeld ?rr1yag13x9
   case yr1yag13x9 =>
    intro w' hSw
    obtain ⟨hSw0,hSw1,hSw2,hSw3,hSw4,hSw5,hSw6,hSw7⟩:=hSw
    go_simp
    with_reducible rfl
   case rr1yag13x9 =>
   simp only [List.set_cons_zero,List.set_cons_succ]
   refine wpAnyH_done (by kernel_rfl) ?_ _
   clear hHeld
   go_wp2_with fail
   go_ret
   refine ⟨HK.out.1,congrArg (fun z => Ending.returned (Value.int IntKind.i64 z)) ?_⟩
   symm
   unfold sideS; rw [if_pos ⟨Nat.succ_pos _,by rw [Nat.add_sub_cancel,← Hag1.out]; exact HG1.out⟩]
  ·
   have HG1:=hid' g1
   refine take1 (i:=9) (v:=?vr1yag13x10) rfl rfl (by kernel_rfl) (by kernel_rfl) (by kernel_rfl) (fun _ _ _ h => h) (Or.inl ⟨by kernel_rfl,?yr1yag13x10⟩) hHeld ?rr1yag13x10
   case yr1yag13x10 =>
    intro w' hSw
    obtain ⟨hSw0,hSw1,hSw2,hSw3,hSw4,hSw5,hSw6,hSw7⟩:=hSw
    go_simp
    with_reducible rfl
   case rr1yag13x10 =>
   simp only [List.set_cons_zero,List.set_cons_succ]
   refine take1 (i:=10) (v:=?vr1yag13x11) rfl rfl (by kernel_rfl) (by kernel_rfl) (by kernel_rfl) (fun _ _ _ h => h) (Or.inl ⟨by kernel_rfl,?yr1yag13x11⟩) hHeld ?rr1yag13x11
   case yr1yag13x11 =>
    intro w' hSw
    obtain ⟨hSw0,hSw1,hSw2,hSw3,hSw4,hSw5,hSw6,hSw7⟩:=hSw
    go_simp
    with_reducible rfl
   case rr1yag13x11 =>
   simp only [List.set_cons_zero,List.set_cons_succ]
   refine wpAnyH_done (by kernel_rfl) ?_ _
   clear hHeld
   have hw1:IntKind.i64.wrap ((n:Int) - 1) = (n:Int) - 1:=by rw [IntKind.wrap_i64]; omega
   by_cases him:i0 + 1 < n - 1
   ·
    have HIM:=hid' him
    have him':(i0:Int) + 1 < (n:Int) - 1:=by omega
    clear him
    go_upto_region 3 with fail
    have KR:Kept W3 W3.drew:=(Kept.refl _).drew
    have sS:=hid' (fun (V:World) (K:Kept W3 V) => (show V.cell? ⟨p,0,none⟩ = some (.string s)∧V.cell? ⟨p,1,none⟩ = some (.int .u8 k)∧V.cell? ⟨p,2,none⟩ = some (.slice a1 n c)∧V.cell? ⟨p,3,none⟩ = some (.slice a2 m c')∧V.cell? ⟨q,0,none⟩ = some (.bool u0)∧V.cell? ⟨q,1,none⟩ = some (.slice u1 u2 u3)∧V.cell? ⟨q,2,none⟩ = some (.bool u4)∧V.cell? ⟨q,3,none⟩ = some (.slice u5 u6 u7) from by
     have r1:=HK.out.2.1.kept K
     have r2:=HK.out.2.2.1.kept K
     exact ⟨r1.c0,r1.c1,r1.c2,r1.c3,r2.c0,r2.c1,r2.c2,r2.c3⟩))
    refine wp_region_held_drew (S:=fun w' => w'.cell? ⟨p,0,none⟩ = some (.string s)∧w'.cell? ⟨p,1,none⟩ = some (.int .u8 k)∧w'.cell? ⟨p,2,none⟩ = some (.slice a1 n c)∧w'.cell? ⟨p,3,none⟩ = some (.slice a2 m c')∧w'.cell? ⟨q,0,none⟩ = some (.bool u0)∧w'.cell? ⟨q,1,none⟩ = some (.slice u1 u2 u3)∧w'.cell? ⟨q,2,none⟩ = some (.bool u4)∧w'.cell? ⟨q,3,none⟩ = some (.slice u5 u6 u7)) (by kernel_rfl) (sS.out _ KR) (fun hHeld => ?_)
    generalize W3.drew = Wd at KR hHeld ⊢
    refine take1 (i:=0) (v:=?vr3yag24x1) rfl rfl (by kernel_rfl) (by kernel_rfl) (by kernel_rfl) (fun _ _ _ h => h) (Or.inl ⟨by kernel_rfl,?yr3yag24x1⟩) hHeld ?rr3yag24x1
    case yr3yag24x1 =>
     intro w' hSw
     obtain ⟨hSw0,hSw1,hSw2,hSw3,hSw4,hSw5,hSw6,hSw7⟩:=hSw
     go_simp
     with_reducible rfl
    case rr3yag24x1 =>
    simp only [List.set_cons_zero,List.set_cons_succ]
    refine take1 (i:=1) (v:=?vr3yag24x2) rfl rfl (by kernel_rfl) (by kernel_rfl) (by kernel_rfl) (fun _ _ _ h => h) (Or.inl ⟨by kernel_rfl,?yr3yag24x2⟩) hHeld ?rr3yag24x2
    case yr3yag24x2 =>
     intro w' hSw
     obtain ⟨hSw0,hSw1,hSw2,hSw3,hSw4,hSw5,hSw6,hSw7⟩:=hSw
     go_simp
     with_reducible rfl
    case rr3yag24x2 =>
    simp only [List.set_cons_zero,List.set_cons_succ]
    refine take1 (i:=2) (v:=?vr3yag24x3) rfl rfl (by kernel_rfl) (by kernel_rfl) (by kernel_rfl) (fun _ _ _ h => h) (Or.inl ⟨by kernel_rfl,?yr3yag24x3⟩) hHeld ?rr3yag24x3
    case yr3yag24x3 =>
     intro w' hSw
     obtain ⟨hSw0,hSw1,hSw2,hSw3,hSw4,hSw5,hSw6,hSw7⟩:=hSw
     go_simp
     with_reducible rfl
    case rr3yag24x3 =>
    simp only [List.set_cons_zero,List.set_cons_succ]
    refine take1 (i:=3) (v:=?vr3yag24x4) rfl rfl (by kernel_rfl) (by kernel_rfl) (by kernel_rfl) (fun _ _ _ h => h) (Or.inl ⟨by kernel_rfl,?yr3yag24x4⟩) hHeld ?rr3yag24x4
    case yr3yag24x4 =>
     intro w' hSw
     obtain ⟨hSw0,hSw1,hSw2,hSw3,hSw4,hSw5,hSw6,hSw7⟩:=hSw
     go_simp
     with_reducible rfl
    case rr3yag24x4 =>
    simp only [List.set_cons_zero,List.set_cons_succ]
    refine take1 (i:=4) (v:=?vr3yag24x5) rfl rfl (by kernel_rfl) (by kernel_rfl) (by kernel_rfl) (fun _ _ _ h => h) (Or.inl ⟨by kernel_rfl,?yr3yag24x5⟩) hHeld ?rr3yag24x5
    case yr3yag24x5 =>
     intro w' hSw
     obtain ⟨hSw0,hSw1,hSw2,hSw3,hSw4,hSw5,hSw6,hSw7⟩:=hSw
     go_simp
     with_reducible rfl
    case rr3yag24x5 =>
    simp only [List.set_cons_zero,List.set_cons_succ]
    refine take1 (i:=5) (v:=?vr3yag24x6) rfl rfl (by kernel_rfl) (by kernel_rfl) (by kernel_rfl) (fun _ _ _ h => h) (Or.inl ⟨by kernel_rfl,?yr3yag24x6⟩) hHeld ?rr3yag24x6
    case yr3yag24x6 =>
     intro w' hSw
     obtain ⟨hSw0,hSw1,hSw2,hSw3,hSw4,hSw5,hSw6,hSw7⟩:=hSw
     go_simp
     with_reducible rfl
    case rr3yag24x6 =>
    simp only [List.set_cons_zero,List.set_cons_succ]
    refine take1 (i:=6) (v:=?vr3yag24x7) rfl rfl (by kernel_rfl) (by kernel_rfl) (by kernel_rfl) (fun _ _ _ h => h) (Or.inl ⟨by kernel_rfl,?yr3yag24x7⟩) hHeld ?rr3yag24x7
    case yr3yag24x7 =>
     intro w' hSw
     obtain ⟨hSw0,hSw1,hSw2,hSw3,hSw4,hSw5,hSw6,hSw7⟩:=hSw
     go_simp
     with_reducible rfl
    case rr3yag24x7 =>
    simp only [List.set_cons_zero,List.set_cons_succ]
    refine take1 (i:=7) (v:=?vr3yag24x8) rfl rfl (by kernel_rfl) (by kernel_rfl) (by kernel_rfl) (fun _ _ _ h => h) (Or.inl ⟨by kernel_rfl,?yr3yag24x8⟩) hHeld ?rr3yag24x8
    case yr3yag24x8 =>
     intro w' hSw
     obtain ⟨hSw0,hSw1,hSw2,hSw3,hSw4,hSw5,hSw6,hSw7⟩:=hSw
     go_simp
     with_reducible rfl
    case rr3yag24x8 =>
    simp only [List.set_cons_zero,List.set_cons_succ]
    refine take1 (i:=8) (v:=?vr3yag24x9) rfl rfl (by kernel_rfl) (by kernel_rfl) (by kernel_rfl) (fun _ _ _ h => h) (Or.inl ⟨by kernel_rfl,?yr3yag24x9⟩) hHeld ?rr3yag24x9
    case yr3yag24x9 =>
     intro w' hSw
     obtain ⟨hSw0,hSw1,hSw2,hSw3,hSw4,hSw5,hSw6,hSw7⟩:=hSw
     go_simp
     with_reducible rfl
    case rr3yag24x9 =>
    simp only [List.set_cons_zero,List.set_cons_succ]
    refine take1 (i:=9) (v:=?vr3yag24x10) rfl rfl (by kernel_rfl) (by kernel_rfl) (by kernel_rfl) (fun _ _ _ h => h) (Or.inl ⟨by kernel_rfl,?yr3yag24x10⟩) hHeld ?rr3yag24x10
    case yr3yag24x10 =>
     intro w' hSw
     obtain ⟨hSw0,hSw1,hSw2,hSw3,hSw4,hSw5,hSw6,hSw7⟩:=hSw
     go_simp
     with_reducible rfl
    case rr3yag24x10 =>
    simp only [List.set_cons_zero,List.set_cons_succ]
    refine ready1 (i:=10) (by kernel_rfl) rfl (by kernel_rfl) (fun K hK => ?_)
    go_simp
    refine (knotR_any s k a1 a2 n c m c' vs (i0 + 1) _ (HS.out.2.kept (HK.out.1.trans KR)) (by have:=HL.out; omega) (HV.out (i0 + 1) (by have:=HL.out; omega))).mono ?_
    rintro e wk5 ⟨hkk,uk,rfl,fk⟩
    have KR:=KR.trans hkk
    refine hK.out _ _ (sS.out _ KR) (fun hHeld => ?_)
    clear hK K hkk
    refine ready1 (i:=11) (by kernel_rfl) rfl (by kernel_rfl) (fun K hK => ?_)
    go_simp
    refine (held_knot _ (HK.out.2.2.2.kept KR) fk).mono ?_
    rintro e W4 ⟨hkk,rfl⟩
    have KR:=KR.trans hkk
    obtain ⟨ag2,hag2⟩:∃ ag,ag = agn N D (vs.getD (i0 + 1) (0,0)):=⟨_,rfl⟩
    rw [← hag2]
    have Hag2:=hid' hag2
    refine hK.out _ _ (sS.out _ KR) (fun hHeld => ?_)
    have HK:=hid' (And.intro (HK.out.1.trans KR) (And.intro (HK.out.2.1.kept KR) (And.intro (HK.out.2.2.1.kept KR) (HK.out.2.2.2.kept KR))))
    clear hK K hkk fk hag2 KR sS
    by_cases g2:0 < ag2
    ·
     have HG2:=hid' g2
     refine take1 (i:=12) (v:=?vr3yag24x11) rfl rfl (by kernel_rfl) (by kernel_rfl) (by kernel_rfl) (fun _ _ _ h => h) (Or.inl ⟨by kernel_rfl,?yr3yag24x11⟩) hHeld ?rr3yag24x11
     case yr3yag24x11 =>
      intro w' hSw
      obtain ⟨hSw0,hSw1,hSw2,hSw3,hSw4,hSw5,hSw6,hSw7⟩:=hSw
      go_simp
      with_reducible rfl
     case rr3yag24x11 =>
     simp only [List.set_cons_zero,List.set_cons_succ]
     refine take1 (i:=13) (v:=?vr3yag24x12) rfl rfl (by kernel_rfl) (by kernel_rfl) (by kernel_rfl) (fun _ _ _ h => h) (Or.inl ⟨by kernel_rfl,?yr3yag24x12⟩) hHeld ?rr3yag24x12
     case yr3yag24x12 =>
      intro w' hSw
      obtain ⟨hSw0,hSw1,hSw2,hSw3,hSw4,hSw5,hSw6,hSw7⟩:=hSw
      go_simp
      with_reducible rfl
     case rr3yag24x12 =>
     simp only [List.set_cons_zero,List.set_cons_succ]
     refine wpAnyH_done (by kernel_rfl) ?_ _
     clear hHeld
     go_wp2_with fail
     go_ret
     refine ⟨HK.out.1,congrArg (fun z => Ending.returned (Value.int IntKind.i64 z)) ?_⟩
     symm
     unfold sideS; rw [if_neg (fun h => by have:=HG1.out; have h2:=h.2; rw [Nat.add_sub_cancel,← Hag1.out] at h2; omega),if_pos ⟨by have:=HIM.out; have:=HL.out; omega,by rw [← Hag2.out]; exact HG2.out⟩]
    ·
     have HG2:=hid' g2
     refine take1 (i:=12) (v:=?vr3yag24x13) rfl rfl (by kernel_rfl) (by kernel_rfl) (by kernel_rfl) (fun _ _ _ h => h) (Or.inl ⟨by kernel_rfl,?yr3yag24x13⟩) hHeld ?rr3yag24x13
     case yr3yag24x13 =>
      intro w' hSw
      obtain ⟨hSw0,hSw1,hSw2,hSw3,hSw4,hSw5,hSw6,hSw7⟩:=hSw
      go_simp
      with_reducible rfl
     case rr3yag24x13 =>
     simp only [List.set_cons_zero,List.set_cons_succ]
     refine take1 (i:=13) (v:=?vr3yag24x14) rfl rfl (by kernel_rfl) (by kernel_rfl) (by kernel_rfl) (fun _ _ _ h => h) (Or.inl ⟨by kernel_rfl,?yr3yag24x14⟩) hHeld ?rr3yag24x14
     case yr3yag24x14 =>
      intro w' hSw
      obtain ⟨hSw0,hSw1,hSw2,hSw3,hSw4,hSw5,hSw6,hSw7⟩:=hSw
      go_simp
      with_reducible rfl
     case rr3yag24x14 =>
     simp only [List.set_cons_zero,List.set_cons_succ]
     refine wpAnyH_done (by kernel_rfl) ?_ _
     clear hHeld
     go_wp2_with fail
     go_ret
     refine ⟨HK.out.1,congrArg (fun z => Ending.returned (Value.int IntKind.i64 z)) ?_⟩
     symm
     unfold sideS; rw [if_neg (fun h => by have:=HG1.out; have h2:=h.2; rw [Nat.add_sub_cancel,← Hag1.out] at h2; omega),if_neg (fun h => by have:=HG2.out; have h2:=h.2; rw [← Hag2.out] at h2; omega)]
   ·
    have HIM:=hid' him
    have him':¬ (i0:Int) + 1 < (n:Int) - 1:=by have:=HL.out; omega
    clear him
    go_upto_region 3 with fail
    have KR:Kept W3 W3.drew:=(Kept.refl _).drew
    have sS:=hid' (fun (V:World) (K:Kept W3 V) => (show V.cell? ⟨p,0,none⟩ = some (.string s)∧V.cell? ⟨p,1,none⟩ = some (.int .u8 k)∧V.cell? ⟨p,2,none⟩ = some (.slice a1 n c)∧V.cell? ⟨p,3,none⟩ = some (.slice a2 m c')∧V.cell? ⟨q,0,none⟩ = some (.bool u0)∧V.cell? ⟨q,1,none⟩ = some (.slice u1 u2 u3)∧V.cell? ⟨q,2,none⟩ = some (.bool u4)∧V.cell? ⟨q,3,none⟩ = some (.slice u5 u6 u7) from by
     have r1:=HK.out.2.1.kept K
     have r2:=HK.out.2.2.1.kept K
     exact ⟨r1.c0,r1.c1,r1.c2,r1.c3,r2.c0,r2.c1,r2.c2,r2.c3⟩))
    refine wp_region_held_drew (S:=fun w' => w'.cell? ⟨p,0,none⟩ = some (.string s)∧w'.cell? ⟨p,1,none⟩ = some (.int .u8 k)∧w'.cell? ⟨p,2,none⟩ = some (.slice a1 n c)∧w'.cell? ⟨p,3,none⟩ = some (.slice a2 m c')∧w'.cell? ⟨q,0,none⟩ = some (.bool u0)∧w'.cell? ⟨q,1,none⟩ = some (.slice u1 u2 u3)∧w'.cell? ⟨q,2,none⟩ = some (.bool u4)∧w'.cell? ⟨q,3,none⟩ = some (.slice u5 u6 u7)) (by kernel_rfl) (sS.out _ KR) (fun hHeld => ?_)
    generalize W3.drew = Wd at KR hHeld ⊢
    refine take1 (i:=0) (v:=?vr3nz5x1) rfl rfl (by kernel_rfl) (by kernel_rfl) (by kernel_rfl) (fun _ _ _ h => h) (Or.inl ⟨by kernel_rfl,?yr3nz5x1⟩) hHeld ?rr3nz5x1
    case yr3nz5x1 =>
     intro w' hSw
     obtain ⟨hSw0,hSw1,hSw2,hSw3,hSw4,hSw5,hSw6,hSw7⟩:=hSw
     go_simp
     with_reducible rfl
    case rr3nz5x1 =>
    simp only [List.set_cons_zero,List.set_cons_succ]
    refine take1 (i:=1) (v:=?vr3nz5x2) rfl rfl (by kernel_rfl) (by kernel_rfl) (by kernel_rfl) (fun _ _ _ h => h) (Or.inl ⟨by kernel_rfl,?yr3nz5x2⟩) hHeld ?rr3nz5x2
    case yr3nz5x2 =>
     intro w' hSw
     obtain ⟨hSw0,hSw1,hSw2,hSw3,hSw4,hSw5,hSw6,hSw7⟩:=hSw
     go_simp
     with_reducible rfl
    case rr3nz5x2 =>
    simp only [List.set_cons_zero,List.set_cons_succ]
    refine take1 (i:=2) (v:=?vr3nz5x3) rfl rfl (by kernel_rfl) (by kernel_rfl) (by kernel_rfl) (fun _ _ _ h => h) (Or.inl ⟨by kernel_rfl,?yr3nz5x3⟩) hHeld ?rr3nz5x3
    case yr3nz5x3 =>
     intro w' hSw
     obtain ⟨hSw0,hSw1,hSw2,hSw3,hSw4,hSw5,hSw6,hSw7⟩:=hSw
     go_simp
     with_reducible rfl
    case rr3nz5x3 =>
    simp only [List.set_cons_zero,List.set_cons_succ]
    refine take1 (i:=3) (v:=?vr3nz5x4) rfl rfl (by kernel_rfl) (by kernel_rfl) (by kernel_rfl) (fun _ _ _ h => h) (Or.inl ⟨by kernel_rfl,?yr3nz5x4⟩) hHeld ?rr3nz5x4
    case yr3nz5x4 =>
     intro w' hSw
     obtain ⟨hSw0,hSw1,hSw2,hSw3,hSw4,hSw5,hSw6,hSw7⟩:=hSw
     go_simp
     with_reducible rfl
    case rr3nz5x4 =>
    simp only [List.set_cons_zero,List.set_cons_succ]
    refine take1 (i:=4) (v:=?vr3nz5x5) rfl rfl (by kernel_rfl) (by kernel_rfl) (by kernel_rfl) (fun _ _ _ h => h) (Or.inl ⟨by kernel_rfl,?yr3nz5x5⟩) hHeld ?rr3nz5x5
    case yr3nz5x5 =>
     intro w' hSw
     obtain ⟨hSw0,hSw1,hSw2,hSw3,hSw4,hSw5,hSw6,hSw7⟩:=hSw
     go_simp
     with_reducible rfl
    case rr3nz5x5 =>
    simp only [List.set_cons_zero,List.set_cons_succ]
    refine take1 (i:=5) (v:=?vr3nz5x6) rfl rfl (by kernel_rfl) (by kernel_rfl) (by kernel_rfl) (fun _ _ _ h => h) (Or.inl ⟨by kernel_rfl,?yr3nz5x6⟩) hHeld ?rr3nz5x6
    case yr3nz5x6 =>
     intro w' hSw
     obtain ⟨hSw0,hSw1,hSw2,hSw3,hSw4,hSw5,hSw6,hSw7⟩:=hSw
     go_simp
     with_reducible rfl
    case rr3nz5x6 =>
    simp only [List.set_cons_zero,List.set_cons_succ]
    refine take1 (i:=6) (v:=?vr3nz5x7) rfl rfl (by kernel_rfl) (by kernel_rfl) (by kernel_rfl) (fun _ _ _ h => h) (Or.inl ⟨by kernel_rfl,?yr3nz5x7⟩) hHeld ?rr3nz5x7
    case yr3nz5x7 =>
     intro w' hSw
     obtain ⟨hSw0,hSw1,hSw2,hSw3,hSw4,hSw5,hSw6,hSw7⟩:=hSw
     go_simp
     with_reducible rfl
    case rr3nz5x7 =>
    simp only [List.set_cons_zero,List.set_cons_succ]
    refine take1 (i:=7) (v:=undef) rfl rfl (by kernel_rfl) (by kernel_rfl) (by kernel_rfl) (fun _ _ _ h => h) (Or.inr ⟨by kernel_rfl,rfl⟩) hHeld ?rr3nz5x8
    case rr3nz5x8 =>
    simp only [List.set_cons_zero,List.set_cons_succ]
    refine take1 (i:=8) (v:=undef) rfl rfl (by kernel_rfl) (by kernel_rfl) (by kernel_rfl) (fun _ _ _ h => h) (Or.inr ⟨by kernel_rfl,rfl⟩) hHeld ?rr3nz5x9
    case rr3nz5x9 =>
    simp only [List.set_cons_zero,List.set_cons_succ]
    refine take1 (i:=9) (v:=undef) rfl rfl (by kernel_rfl) (by kernel_rfl) (by kernel_rfl) (fun _ _ _ h => h) (Or.inr ⟨by kernel_rfl,rfl⟩) hHeld ?rr3nz5x10
    case rr3nz5x10 =>
    simp only [List.set_cons_zero,List.set_cons_succ]
    refine take1 (i:=10) (v:=undef) rfl rfl (by kernel_rfl) (by kernel_rfl) (by kernel_rfl) (fun _ _ _ h => h) (Or.inr ⟨by kernel_rfl,rfl⟩) hHeld ?rr3nz5x11
    case rr3nz5x11 =>
    simp only [List.set_cons_zero,List.set_cons_succ]
    refine take1 (i:=11) (v:=undef) rfl rfl (by kernel_rfl) (by kernel_rfl) (by kernel_rfl) (fun _ _ _ h => h) (Or.inr ⟨by kernel_rfl,rfl⟩) hHeld ?rr3nz5x12
    case rr3nz5x12 =>
    simp only [List.set_cons_zero,List.set_cons_succ]
    refine take1 (i:=12) (v:=undef) rfl rfl (by kernel_rfl) (by kernel_rfl) (by kernel_rfl) (fun _ _ _ h => h) (Or.inr ⟨by kernel_rfl,rfl⟩) hHeld ?rr3nz5x13
    case rr3nz5x13 =>
    simp only [List.set_cons_zero,List.set_cons_succ]
    refine take1 (i:=13) (v:=?vr3nz5x14) rfl rfl (by kernel_rfl) (by kernel_rfl) (by kernel_rfl) (fun _ _ _ h => h) (Or.inl ⟨by kernel_rfl,?yr3nz5x14⟩) hHeld ?rr3nz5x14
    case yr3nz5x14 =>
     intro w' hSw
     obtain ⟨hSw0,hSw1,hSw2,hSw3,hSw4,hSw5,hSw6,hSw7⟩:=hSw
     go_simp
     with_reducible rfl
    case rr3nz5x14 =>
    simp only [List.set_cons_zero,List.set_cons_succ]
    refine wpAnyH_done (by kernel_rfl) ?_ _
    have HK:=hid' (And.intro (HK.out.1.trans KR) (And.intro (HK.out.2.1.kept KR) (And.intro (HK.out.2.2.1.kept KR) (HK.out.2.2.2.kept KR))))
    clear sS hHeld
    generalize Wd = W4 at HK ⊢
    clear KR
    go_wp2_with fail
    go_ret
    refine ⟨HK.out.1,congrArg (fun z => Ending.returned (Value.int IntKind.i64 z)) ?_⟩
    symm
    unfold sideS; rw [if_neg (fun h => by have:=HG1.out; have h2:=h.2; rw [Nat.add_sub_cancel,← Hag1.out] at h2; omega),if_neg (fun h => by have h1:=h.1; have:=HIM.out; have:=HL.out; omega)]
end V
end Go.Proofs.YthfbfbfambbkaaaGreatDoor

namespace Go.Proofs.YthfbfbfambbkaaaGreatDoor
open Go.RowKit
namespace V
open Q (hid' Row3 Row2 okN okN_bd Scl RQ)
open Classical in
noncomputable def refU (sg nA:Bool) (an ad:List Nat):Int:=if R sg an∧R nA ad then if F.RatR sg nA an ad then 0 else 20 else 10
theorem refused_is {sg nA:Bool} {an ad:List Nat} {cc:Int} (h:F.Refused 1 (fun _ => sg) (fun _ => nA) (fun _ => an) (fun _ => ad) cc):cc = refU sg nA an ad:=by
 unfold refU
 rcases h with ⟨rfl,i,_,h⟩ | ⟨h1,⟨rfl,i,_,h⟩ | ⟨rfl,h⟩⟩
 ·
  rw [if_neg h]
 ·
  rw [if_pos (h1 0 (by omega)),if_neg (fun r => h ⟨r.pos,r.low⟩)]
 ·
  rw [if_pos (h1 0 (by omega)),if_pos ⟨(h1 0 (by omega)).1,(h1 0 (by omega)).2,(h 0 (by omega)).1,(h 0 (by omega)).2⟩]
theorem fault_is {sg nA:Bool} {an ad:List Nat} {cc:Int} (h:(cc = 10∧¬ (R sg an∧R nA ad)) ∨ (cc = 20∧R sg an∧R nA ad∧¬ F.RatR sg nA an ad) ∨ (cc = 0∧F.RatR sg nA an ad)):cc = refU sg nA an ad∧(cc = 0→F.RatR sg nA an ad):=by
 unfold refU
 rcases h with ⟨rfl,h⟩ | ⟨rfl,h1,h2,h⟩ | ⟨rfl,h⟩
 ·
  rw [if_neg h]; exact ⟨rfl,fun e => by omega⟩
 ·
  rw [if_pos ⟨h1,h2⟩,if_neg h]; exact ⟨rfl,fun e => by omega⟩
 ·
  rw [if_pos ⟨h.ra,h.rd⟩,if_pos h]; exact ⟨rfl,fun _ => h⟩
def sideT (r u S:Int):Int × Int:=if r = 0 then if u = 0 then (S,0) else (0,u) else (0,r)
theorem side_is {r:Int} {sg nA:Bool} {an ad:List Nat} {vs:List (Int × Int)} {i z f:Int} (h:SideIs r sg nA an ad vs i z f):z = (sideT r (refU sg nA an ad) (sideS (M.int sg an) (M.val ad) vs i.toNat)).1∧f = (sideT r (refU sg nA an ad) (sideS (M.int sg an) (M.val ad) vs i.toNat)).2:=by
 unfold sideT
 rcases h with ⟨h0,rfl,rfl⟩ | ⟨h0,cc,hcc,⟨h1,rfl,rfl⟩ | ⟨h1,rfl,rfl⟩⟩
 ·
  rw [if_neg h0]; exact ⟨rfl,rfl⟩
 ·
  rw [← refused_is hcc,if_pos h0,if_neg h1]; exact ⟨rfl,rfl⟩
 ·
  rw [← refused_is hcc,if_pos h0,if_pos h1]; exact ⟨rfl,rfl⟩
def findT (ok:Bool) (u S:Int):Int × Int:=if ok = true then if u = 0 then (S,0) else (0,u) else (0,50)
theorem find_is {ok:Bool} {sg nA:Bool} {an ad:List Nat} {vs:List (Int × Int)} {z f:Int} (h:FindIs ok sg nA an ad vs z f):z = (findT ok (refU sg nA an ad) (cntA (M.int sg an) (M.val ad) vs)).1∧f = (findT ok (refU sg nA an ad) (cntA (M.int sg an) (M.val ad) vs)).2:=by
 unfold findT
 rcases h with ⟨h0,rfl,rfl⟩ | ⟨h0,cc,hcc,⟨h1,rfl,rfl⟩ | ⟨h1,rfl,rfl⟩⟩
 ·
  rw [h0]; exact ⟨rfl,rfl⟩
 ·
  rw [← refused_is hcc,if_pos h0,if_neg h1]; exact ⟨rfl,rfl⟩
 ·
  rw [← refused_is hcc,if_pos h0,if_pos h1]; exact ⟨rfl,rfl⟩
theorem fx_of {w:World} {v:Value} {sg nA:Bool} {an ad:List Nat} (h:F.FIs w v (M.int sg an) (M.int nA ad) (2 * an.length) (2 * ad.length)) (r:F.RatR sg nA an ad):FX w v (M.int sg an) (M.val ad):=by
 rw [r.val] at h
 obtain ⟨s,ao,n,c,t,ap,n',c',rfl,n1,n2,l1,l2⟩:=h
 have a:=r.ra.1
 have b:=r.rd.1
 exact ⟨⟨s,ao,n,c,t,ap,n',c',rfl,n1,n2,by omega,by omega⟩,r.vpos⟩
set_option maxRecDepth 100000 in
set_option maxHeartbeats 8000000 in
theorem sideR_any (s:ByteArray) (k:Int) (a1 a2:Option Addr) (n c m c':Nat) (gs vs:List (Int × Int)) (i':Int) (sg nA:Bool) (b1 b2:Option Addr) (k1 c1 k2 c2:Nat) (an ad:List Nat) (w:World) (hs:s.size≤9223372036854775807) (h1:NSl w (.slice a1 n c) gs) (h2:NSl w (.slice a2 m c') vs) (hn:n≤4611686018427387903) (hm:m≤4611686018427387903)
  (ha:Sl w (.slice b1 k1 c1) an) (had:Sl w (.slice b2 k2 c2) ad) (hla:an.length≤9223372036854775807) (hld:ad.length≤9223372036854775807) :
  Calls Tryz.prog 12 #[.agg #[.string s,.int .u8 k,.slice a1 n c,.slice a2 m c'],.int .i64 i',.agg #[.bool sg,.slice b1 k1 c1,.bool nA,.slice b2 k2 c2]] w fun e w' => Kept w w'∧e = .returned (.tuple #[.int .i64 (sideT (refM s.data.toList k gs vs i') (refU sg nA an ad) (sideS (M.int sg an) (M.val ad) vs i'.toNat)).1,.int .i64 (sideT (refM s.data.toList k gs vs i') (refU sg nA an ad) (sideS (M.int sg an) (M.val ad) vs i'.toNat)).2]):=by
 have HS:=hid' (And.intro h1 (And.intro h2 (And.intro ha (And.intro had (And.intro hla hld)))))
 have HL0:=hid' (show m = vs.length∧n = gs.length from ⟨h2.len,h1.len⟩)
 clear h1 h2 ha had hla hld
 obtain ⟨rf,hrf⟩:∃ rf,rf = refM s.data.toList k gs vs i':=⟨_,rfl⟩
 rw [← hrf]
 have HRE:=hid' hrf
 obtain ⟨ru,hru⟩:∃ ru,ru = refU sg nA an ad:=⟨_,rfl⟩
 rw [← hru]
 have HRU:=hid' hru
 clear hrf hru
 have HFF:=hid' (rfaultM_any s k a1 a2 n c m c' gs vs i')
 have HFU:=hid' (F.Fault_any sg nA b1 b2 k1 c1 k2 c2 an ad)
 obtain ⟨SS,hSS⟩:∃ SS,SS = sideS (M.int sg an) (M.val ad) vs i'.toNat:=⟨_,rfl⟩
 rw [← hSS]
 have HSS:=hid' hSS
 clear hSS
 obtain ⟨o1,ho1⟩:∃ o,o = (sideT rf ru SS).1:=⟨_,rfl⟩
 obtain ⟨o2,ho2⟩:∃ o,o = (sideT rf ru SS).2:=⟨_,rfl⟩
 rw [← ho1,← ho2]
 have HO:=hid' (And.intro ho1 ho2)
 clear ho1 ho2
 go_enter Tryz.func12,Tryz.ntmps12
 go_upto_region 1 with fail
 have hM:=(Row4.alloc 24 w (.string s) (.int .u8 k) (.slice a1 n c) (.slice a2 m c')).kept ((Kept.refl (w.alloc (.cells #[.string s,.int .u8 k,.slice a1 n c,.slice a2 m c'] 24))).alloc (.cells #[.bool sg,.slice b1 k1 c1,.bool nA,.slice b2 k2 c2] 29))
 have hU:=F.RRow.alloc (w.alloc (.cells #[.string s,.int .u8 k,.slice a1 n c,.slice a2 m c'] 24)) (.bool sg) (.slice b1 k1 c1) (.bool nA) (.slice b2 k2 c2)
 have hK:=(((Kept.refl w).alloc (.cells #[.string s,.int .u8 k,.slice a1 n c,.slice a2 m c'] 24)).alloc (.cells #[.bool sg,.slice b1 k1 c1,.bool nA,.slice b2 k2 c2] 29))
 simp only [World.size_alloc] at hU
 generalize (w.alloc (.cells #[.string s,.int .u8 k,.slice a1 n c,.slice a2 m c'] 24)).alloc (.cells #[.bool sg,.slice b1 k1 c1,.bool nA,.slice b2 k2 c2] 29) = W at hM hU hK ⊢
 obtain ⟨q,hqq⟩:∃ q,q = w.heap.size + 1:=⟨_,rfl⟩
 rw [← hqq] at hU ⊢
 obtain ⟨p,hqp⟩:∃ q,q = w.heap.size:=⟨_,rfl⟩
 rw [← hqp] at hM ⊢
 clear hqp hqq
 have HK:=hid' (And.intro hK (And.intro hM hU))
 clear hK hM hU
 have q0:=HK.out.2.1.c0
 have q1:=HK.out.2.1.c1
 have q2:=HK.out.2.1.c2
 have q3:=HK.out.2.1.c3
 go_wp2_with fail
 refine (HFF.out _ hs (HS.out.1.kept HK.out.1) (HS.out.2.1.kept HK.out.1) hn hm).mono ?_
 rintro e w2 ⟨hk2,rfl⟩
 have HK:=hid' (And.intro (HK.out.1.trans hk2) (And.intro (HK.out.2.1.kept hk2) (HK.out.2.2.kept hk2)))
 clear hk2 q0 q1 q2 q3 HFF
 rw [← HRE.out]
 by_cases hr0:rf = 0
 ·
  have HRZ:=hid' (refM_zero (s:=s.data.toList) (k:=k) (gs:=gs) (vs:=vs) (i:=i') (by rw [← HRE.out]; exact hr0))
  clear HRE
  subst hr0
  have q0:=HK.out.2.2.c0
  have q1:=HK.out.2.2.c1
  have q2:=HK.out.2.2.c2
  have q3:=HK.out.2.2.c3
  go_wp2_with fail
  refine (HFU.out _ (HS.out.2.2.1.kept HK.out.1) (HS.out.2.2.2.1.kept HK.out.1) HS.out.2.2.2.2.1 HS.out.2.2.2.2.2).mono ?_
  rintro e w3 ⟨hk3,cc,rfl,hcc⟩
  obtain ⟨h1,h2⟩:=fault_is hcc
  have HCC:=hid' (And.intro (h1.trans HRU.out.symm) h2)
  have HK:=hid' (And.intro (HK.out.1.trans hk3) (And.intro (HK.out.2.1.kept hk3) (HK.out.2.2.kept hk3)))
  clear hk3 q0 q1 q2 q3 HFU hcc h1 h2
  by_cases hc0:cc = 0
  ·
   have HR:=hid' (HCC.out.2 hc0)
   have HRN:=hid' (show ru = 0 by rw [← HCC.out.1]; exact hc0)
   subst hc0
   have HRF:=hid' HRZ.out.1
   obtain ⟨i,rfl⟩:∃ i:Nat,i' = (i:Int):=⟨i'.toNat,by have:=HRZ.out.2; omega⟩
   have HOA:=hid' (okM_all HRF.out)
   have HL:=hid' (show m = vs.length∧n = gs.length∧n = m + 1∧n≤4∧i < n by
    have e0:=HL0.out
    have e3:=fits_len HOA.out.2.2.2
    exact ⟨e0.1,e0.2,by omega,by omega,by have:=HRZ.out.2; omega⟩)
   have HV:=hid' (okM_at HRF.out).2
   have HV:=hid' (fun j (hj:j < m) => HV.out j (by have:=HL.out; omega))
   go_upto_region 6 with fail
   have KR:Kept w3 w3.drew:=(Kept.refl _).drew
   have sS:=hid' (fun (V:World) (K:Kept w3 V) => (show V.cell? ⟨p,0,none⟩ = some (.string s)∧V.cell? ⟨p,1,none⟩ = some (.int .u8 k)∧V.cell? ⟨p,2,none⟩ = some (.slice a1 n c)∧V.cell? ⟨p,3,none⟩ = some (.slice a2 m c')∧V.cell? ⟨q,0,none⟩ = some (.bool sg)∧V.cell? ⟨q,1,none⟩ = some (.slice b1 k1 c1)∧V.cell? ⟨q,2,none⟩ = some (.bool nA)∧V.cell? ⟨q,3,none⟩ = some (.slice b2 k2 c2) from by
    have r1:=HK.out.2.1.kept K
    have r2:=HK.out.2.2.kept K
    exact ⟨r1.c0,r1.c1,r1.c2,r1.c3,r2.c0,r2.c1,r2.c2,r2.c3⟩))
   refine wp_region_held_drew (S:=fun w' => w'.cell? ⟨p,0,none⟩ = some (.string s)∧w'.cell? ⟨p,1,none⟩ = some (.int .u8 k)∧w'.cell? ⟨p,2,none⟩ = some (.slice a1 n c)∧w'.cell? ⟨p,3,none⟩ = some (.slice a2 m c')∧w'.cell? ⟨q,0,none⟩ = some (.bool sg)∧w'.cell? ⟨q,1,none⟩ = some (.slice b1 k1 c1)∧w'.cell? ⟨q,2,none⟩ = some (.bool nA)∧w'.cell? ⟨q,3,none⟩ = some (.slice b2 k2 c2)) (by kernel_rfl) (sS.out _ KR) (fun hHeld => ?_)
   generalize w3.drew = Wd at KR hHeld ⊢
   refine take1 (i:=0) (v:=?va1) rfl rfl (by kernel_rfl) (by kernel_rfl) (by kernel_rfl) (fun _ _ _ h => h) (Or.inl ⟨by kernel_rfl,?ya1⟩) hHeld ?ra1
   case ya1 =>
    intro w' hSw
    obtain ⟨hSw0,hSw1,hSw2,hSw3,hSw4,hSw5,hSw6,hSw7⟩:=hSw
    go_simp
    with_reducible rfl
   case ra1 =>
   simp only [List.set_cons_zero,List.set_cons_succ]
   refine take1 (i:=1) (v:=?va2) rfl rfl (by kernel_rfl) (by kernel_rfl) (by kernel_rfl) (fun _ _ _ h => h) (Or.inl ⟨by kernel_rfl,?ya2⟩) hHeld ?ra2
   case ya2 =>
    intro w' hSw
    obtain ⟨hSw0,hSw1,hSw2,hSw3,hSw4,hSw5,hSw6,hSw7⟩:=hSw
    go_simp
    with_reducible rfl
   case ra2 =>
   simp only [List.set_cons_zero,List.set_cons_succ]
   refine take1 (i:=2) (v:=?va3) rfl rfl (by kernel_rfl) (by kernel_rfl) (by kernel_rfl) (fun _ _ _ h => h) (Or.inl ⟨by kernel_rfl,?ya3⟩) hHeld ?ra3
   case ya3 =>
    intro w' hSw
    obtain ⟨hSw0,hSw1,hSw2,hSw3,hSw4,hSw5,hSw6,hSw7⟩:=hSw
    go_simp
    with_reducible rfl
   case ra3 =>
   simp only [List.set_cons_zero,List.set_cons_succ]
   refine ready1 (i:=3) (by kernel_rfl) rfl (by kernel_rfl) (fun K hK => ?_)
   go_simp
   refine (F.FTake_any sg nA b1 b2 k1 c1 k2 c2 an ad _ (HS.out.2.2.1.kept (HK.out.1.trans KR)) (HS.out.2.2.2.1.kept (HK.out.1.trans KR)) (by have:=HR.out.ra.1; omega) (by have:=HR.out.rd.1; omega)).mono ?_
   rintro e wt ⟨hkt,ut,rfl,ft⟩
   have fx:=fx_of ft HR.out
   obtain ⟨y0,y1,y2,y3,y4,y5,y6,y7,rfl⟩:=fx.shape
   have KR:=KR.trans hkt
   refine hK.out _ _ (sS.out _ KR) (fun hHeld => ?_)
   clear hK K hkt ft
   refine ready1 (i:=4) (by kernel_rfl) rfl (by kernel_rfl) (fun K hK => ?_)
   go_simp
   refine (liesR_any s k a1 a2 n c m c' gs vs i _ _ y0 y1 y2 y3 y4 y5 y6 y7 _ (HS.out.1.kept (HK.out.1.trans KR)) (HS.out.2.1.kept (HK.out.1.trans KR)) hn hm HL.out.2.2.1 (by have:=HL.out; omega) (fun j hj => HV.out j (by have:=HL.out; omega)) fx).mono ?_
   rintro e wl ⟨hkl,rfl⟩
   have KR:=KR.trans hkl
   have HSI:=hid' (show sideS (M.int sg an) (M.val ad) vs i = SS by rw [HSS.out,Int.toNat_natCast])
   rw [HSI.out]
   refine hK.out _ _ (sS.out _ KR) (fun hHeld => ?_)
   have HK2:=hid' (HK.out.1.trans KR)
   clear hK K hkl fx
   refine take1 (i:=5) (v:=?va4) rfl rfl (by kernel_rfl) (by kernel_rfl) (by kernel_rfl) (fun _ _ _ h => h) (Or.inl ⟨by kernel_rfl,?ya4⟩) hHeld ?ra4
   case ya4 =>
    intro w' hSw
    obtain ⟨hSw0,hSw1,hSw2,hSw3,hSw4,hSw5,hSw6,hSw7⟩:=hSw
    go_simp
    with_reducible rfl
   case ra4 =>
   simp only [List.set_cons_zero,List.set_cons_succ]
   refine take1 (i:=6) (v:=?va5) rfl rfl (by kernel_rfl) (by kernel_rfl) (by kernel_rfl) (fun _ _ _ h => h) (Or.inl ⟨by kernel_rfl,?ya5⟩) hHeld ?ra5
   case ya5 =>
    intro w' hSw
    obtain ⟨hSw0,hSw1,hSw2,hSw3,hSw4,hSw5,hSw6,hSw7⟩:=hSw
    go_simp
    with_reducible rfl
   case ra5 =>
   simp only [List.set_cons_zero,List.set_cons_succ]
   refine wpAnyH_done (by kernel_rfl) ?_ _
   clear hHeld sS KR
   go_wp2_with fail
   go_ret2
   exact ⟨HK2.out,by rw [HO.out.1,HO.out.2,HRN.out]; rfl⟩
  ·
   have hc1:(cc != 0) = true:=by simpa using hc0
   have HC0:=hid' hc0
   go_wp2_with fail
   go_ret2
   exact ⟨HK.out.1,by rw [HO.out.1,HO.out.2,← HCC.out.1]; unfold sideT; rw [if_pos rfl,if_neg HC0.out]; rfl⟩
 ·
  have hr1:(rf == 0) = false:=by simpa using hr0
  have hr2:(rf != 0) = true:=by simpa using hr0
  have HR0:=hid' hr0
  go_wp2_with fail
  go_ret2
  exact ⟨HK.out.1,by rw [HO.out.1,HO.out.2]; unfold sideT; rw [if_neg HR0.out]; rfl⟩
set_option maxRecDepth 100000 in
set_option maxHeartbeats 8000000 in
theorem findR_any (s:ByteArray) (k:Int) (a1 a2:Option Addr) (n c m c':Nat) (gs vs:List (Int × Int)) (sg nA:Bool) (b1 b2:Option Addr) (k1 c1 k2 c2:Nat) (an ad:List Nat) (w:World) (hs:s.size≤9223372036854775807) (h1:NSl w (.slice a1 n c) gs) (h2:NSl w (.slice a2 m c') vs) (hn:n≤4611686018427387903) (hm:m≤4611686018427387903)
  (ha:Sl w (.slice b1 k1 c1) an) (had:Sl w (.slice b2 k2 c2) ad) (hla:an.length≤9223372036854775807) (hld:ad.length≤9223372036854775807) :
  Calls Tryz.prog 14 #[.agg #[.string s,.int .u8 k,.slice a1 n c,.slice a2 m c'],.agg #[.bool sg,.slice b1 k1 c1,.bool nA,.slice b2 k2 c2]] w fun e w' => Kept w w'∧e = .returned (.tuple #[.int .i64 (findT (okM s.data.toList k gs vs) (refU sg nA an ad) (cntA (M.int sg an) (M.val ad) vs)).1,.int .i64 (findT (okM s.data.toList k gs vs) (refU sg nA an ad) (cntA (M.int sg an) (M.val ad) vs)).2]):=by
 have HS:=hid' (And.intro h1 (And.intro h2 (And.intro ha (And.intro had (And.intro hla hld)))))
 have HL0:=hid' (show m = vs.length∧n = gs.length from ⟨h2.len,h1.len⟩)
 clear h1 h2 ha had hla hld
 obtain ⟨ok,hok⟩:∃ ok,ok = okM s.data.toList k gs vs:=⟨_,rfl⟩
 rw [← hok]
 have HOE:=hid' hok
 obtain ⟨ru,hru⟩:∃ ru,ru = refU sg nA an ad:=⟨_,rfl⟩
 rw [← hru]
 have HRU:=hid' hru
 clear hok hru
 have HFF:=hid' (rvalidM_any s k a1 a2 n c m c' gs vs)
 have HFU:=hid' (F.Fault_any sg nA b1 b2 k1 c1 k2 c2 an ad)
 obtain ⟨cn,hcn⟩:∃ cn,cn = cntA (M.int sg an) (M.val ad) vs:=⟨_,rfl⟩
 rw [← hcn]
 have HCN:=hid' hcn
 clear hcn
 obtain ⟨o1,ho1⟩:∃ o,o = (findT ok ru cn).1:=⟨_,rfl⟩
 obtain ⟨o2,ho2⟩:∃ o,o = (findT ok ru cn).2:=⟨_,rfl⟩
 rw [← ho1,← ho2]
 have HO:=hid' (And.intro ho1 ho2)
 clear ho1 ho2
 go_enter Tryz.func14,Tryz.ntmps14
 go_upto_region 1 with fail
 have hM:=(Row4.alloc 24 w (.string s) (.int .u8 k) (.slice a1 n c) (.slice a2 m c')).kept ((Kept.refl (w.alloc (.cells #[.string s,.int .u8 k,.slice a1 n c,.slice a2 m c'] 24))).alloc (.cells #[.bool sg,.slice b1 k1 c1,.bool nA,.slice b2 k2 c2] 29))
 have hU:=F.RRow.alloc (w.alloc (.cells #[.string s,.int .u8 k,.slice a1 n c,.slice a2 m c'] 24)) (.bool sg) (.slice b1 k1 c1) (.bool nA) (.slice b2 k2 c2)
 have hK:=(((Kept.refl w).alloc (.cells #[.string s,.int .u8 k,.slice a1 n c,.slice a2 m c'] 24)).alloc (.cells #[.bool sg,.slice b1 k1 c1,.bool nA,.slice b2 k2 c2] 29))
 simp only [World.size_alloc] at hU
 generalize (w.alloc (.cells #[.string s,.int .u8 k,.slice a1 n c,.slice a2 m c'] 24)).alloc (.cells #[.bool sg,.slice b1 k1 c1,.bool nA,.slice b2 k2 c2] 29) = W at hM hU hK ⊢
 obtain ⟨q,hqq⟩:∃ q,q = w.heap.size + 1:=⟨_,rfl⟩
 rw [← hqq] at hU ⊢
 obtain ⟨p,hqp⟩:∃ q,q = w.heap.size:=⟨_,rfl⟩
 rw [← hqp] at hM ⊢
 clear hqp hqq
 have HK:=hid' (And.intro hK (And.intro hM hU))
 clear hK hM hU
 have q0:=HK.out.2.1.c0
 have q1:=HK.out.2.1.c1
 have q2:=HK.out.2.1.c2
 have q3:=HK.out.2.1.c3
 go_wp2_with fail
 refine (HFF.out _ hs (HS.out.1.kept HK.out.1) (HS.out.2.1.kept HK.out.1) hn hm).mono ?_
 rintro e w2 ⟨hk2,rfl⟩
 have HK:=hid' (And.intro (HK.out.1.trans hk2) (And.intro (HK.out.2.1.kept hk2) (HK.out.2.2.kept hk2)))
 clear hk2 q0 q1 q2 q3 HFF
 rw [← HOE.out]
 cases ok
 ·
  go_wp2_with fail
  go_ret2
  exact ⟨HK.out.1,by rw [HO.out.1,HO.out.2]; rfl⟩
 have HRF:=hid' HOE.out.symm
 have q0:=HK.out.2.2.c0
 have q1:=HK.out.2.2.c1
 have q2:=HK.out.2.2.c2
 have q3:=HK.out.2.2.c3
 go_wp2_with fail
 refine (HFU.out _ (HS.out.2.2.1.kept HK.out.1) (HS.out.2.2.2.1.kept HK.out.1) HS.out.2.2.2.2.1 HS.out.2.2.2.2.2).mono ?_
 rintro e w3 ⟨hk3,cc,rfl,hcc⟩
 obtain ⟨h1,h2⟩:=fault_is hcc
 have HCC:=hid' (And.intro (h1.trans HRU.out.symm) h2)
 have HK:=hid' (And.intro (HK.out.1.trans hk3) (And.intro (HK.out.2.1.kept hk3) (HK.out.2.2.kept hk3)))
 clear hk3 q0 q1 q2 q3 HFU hcc h1 h2
 by_cases hc0:cc = 0
 ·
  have HR:=hid' (HCC.out.2 hc0)
  have HRN:=hid' (show ru = 0 by rw [← HCC.out.1]; exact hc0)
  subst hc0
  have HOA:=hid' (okM_all HRF.out)
  have HL:=hid' (show m = vs.length∧n = gs.length∧n = m + 1∧n≤4 by
   have e0:=HL0.out
   have e3:=fits_len HOA.out.2.2.2
   exact ⟨e0.1,e0.2,by omega,by omega⟩)
  have HV:=hid' (okM_at HRF.out).2
  have HV:=hid' (fun j (hj:j < m) => HV.out j (by have:=HL.out; omega))
  have HCM:=hid' (show cn≤m by
   have e:=(cntA_spec (M.int sg an) (M.val ad) vs).1
   rw [← HCN.out] at e
   have:=HL.out
   omega)
  have HSW:=hid' (fun (j:Nat) (hj:j≤m) => side_walk (N:=M.int sg an) (D:=M.val ad) (vs:=vs) HR.out.vpos HOA.out.2.2.1 (k:=j) (by have:=HL.out; omega))
  rw [← HCN.out] at HSW
  go_wp2_with fail
  go_loopw [7] (fun vi wr => ∃ j:Nat,j≤cn∧vi = .int .i64 (j:Int)∧Hid (Kept w3 wr)) (fun vi _ => cn - (intOf vi).toNat)
  case atStart => exact ⟨0,Nat.zero_le _,rfl,Kept.refl _⟩
  case round =>
   obtain ⟨j,hj,rfl,H⟩:=hrel
   have hj2:j≤3:=by have:=HCM.out; have:=HL.out; omega
   have HJ:=hid' (show j≤m by have:=HCM.out; omega)
   have HK:=hid' (And.intro (HK.out.1.trans H.out) (And.intro (HK.out.2.1.kept H.out) (HK.out.2.2.kept H.out)))
   go_upto_region 7 with fail
   have KR:Kept wr wr.drew:=(Kept.refl _).drew
   have sS:=hid' (fun (V:World) (K:Kept wr V) => (show V.cell? ⟨p,0,none⟩ = some (.string s)∧V.cell? ⟨p,1,none⟩ = some (.int .u8 k)∧V.cell? ⟨p,2,none⟩ = some (.slice a1 n c)∧V.cell? ⟨p,3,none⟩ = some (.slice a2 m c')∧V.cell? ⟨q,0,none⟩ = some (.bool sg)∧V.cell? ⟨q,1,none⟩ = some (.slice b1 k1 c1)∧V.cell? ⟨q,2,none⟩ = some (.bool nA)∧V.cell? ⟨q,3,none⟩ = some (.slice b2 k2 c2) from by
    have r1:=HK.out.2.1.kept K
    have r2:=HK.out.2.2.kept K
    exact ⟨r1.c0,r1.c1,r1.c2,r1.c3,r2.c0,r2.c1,r2.c2,r2.c3⟩))
   refine wp_region_held_drew (S:=fun w' => w'.cell? ⟨p,0,none⟩ = some (.string s)∧w'.cell? ⟨p,1,none⟩ = some (.int .u8 k)∧w'.cell? ⟨p,2,none⟩ = some (.slice a1 n c)∧w'.cell? ⟨p,3,none⟩ = some (.slice a2 m c')∧w'.cell? ⟨q,0,none⟩ = some (.bool sg)∧w'.cell? ⟨q,1,none⟩ = some (.slice b1 k1 c1)∧w'.cell? ⟨q,2,none⟩ = some (.bool nA)∧w'.cell? ⟨q,3,none⟩ = some (.slice b2 k2 c2)) (by kernel_rfl) (sS.out _ KR) (fun hHeld => ?_)
   generalize wr.drew = Wd at KR hHeld ⊢
   refine take1 (i:=0) (v:=?vb1) rfl rfl (by kernel_rfl) (by kernel_rfl) (by kernel_rfl) (fun _ _ _ h => h) (Or.inl ⟨by kernel_rfl,?yb1⟩) hHeld ?rb1
   case yb1 =>
    intro w' hSw
    obtain ⟨hSw0,hSw1,hSw2,hSw3,hSw4,hSw5,hSw6,hSw7⟩:=hSw
    go_simp
    with_reducible rfl
   case rb1 =>
   simp only [List.set_cons_zero,List.set_cons_succ]
   refine take1 (i:=1) (v:=?vb2) rfl rfl (by kernel_rfl) (by kernel_rfl) (by kernel_rfl) (fun _ _ _ h => h) (Or.inl ⟨by kernel_rfl,?yb2⟩) hHeld ?rb2
   case yb2 =>
    intro w' hSw
    obtain ⟨hSw0,hSw1,hSw2,hSw3,hSw4,hSw5,hSw6,hSw7⟩:=hSw
    go_simp
    with_reducible rfl
   case rb2 =>
   simp only [List.set_cons_zero,List.set_cons_succ]
   refine take1 (i:=2) (v:=?vb3) rfl rfl (by kernel_rfl) (by kernel_rfl) (by kernel_rfl) (fun _ _ _ h => h) (Or.inl ⟨by kernel_rfl,?yb3⟩) hHeld ?rb3
   case yb3 =>
    intro w' hSw
    obtain ⟨hSw0,hSw1,hSw2,hSw3,hSw4,hSw5,hSw6,hSw7⟩:=hSw
    go_simp
    with_reducible rfl
   case rb3 =>
   simp only [List.set_cons_zero,List.set_cons_succ]
   refine ready1 (i:=3) (by kernel_rfl) rfl (by kernel_rfl) (fun K hK => ?_)
   go_simp
   refine (F.FTake_any sg nA b1 b2 k1 c1 k2 c2 an ad _ (HS.out.2.2.1.kept (HK.out.1.trans KR)) (HS.out.2.2.2.1.kept (HK.out.1.trans KR)) (by have:=HR.out.ra.1; omega) (by have:=HR.out.rd.1; omega)).mono ?_
   rintro e wt ⟨hkt,ut,rfl,ft⟩
   have fx:=fx_of ft HR.out
   obtain ⟨y0,y1,y2,y3,y4,y5,y6,y7,rfl⟩:=fx.shape
   have KR:=KR.trans hkt
   refine hK.out _ _ (sS.out _ KR) (fun hHeld => ?_)
   clear hK K hkt ft
   refine ready1 (i:=4) (by kernel_rfl) rfl (by kernel_rfl) (fun K hK => ?_)
   go_simp
   refine (liesR_any s k a1 a2 n c m c' gs vs j _ _ y0 y1 y2 y3 y4 y5 y6 y7 _ (HS.out.1.kept (HK.out.1.trans KR)) (HS.out.2.1.kept (HK.out.1.trans KR)) hn hm HL.out.2.2.1 (by have:=HJ.out; have:=HL.out; omega) (fun j hj => HV.out j (by have:=HL.out; omega)) fx).mono ?_
   rintro e wl ⟨hkl,rfl⟩
   have KR:=KR.trans hkl
   obtain ⟨sj,hsj⟩:∃ sj,sj = sideS (M.int sg an) (M.val ad) vs j:=⟨_,rfl⟩
   rw [← hsj]
   have HSJ:=hid' (HSW.out j HJ.out)
   rw [← hsj] at HSJ
   refine hK.out _ _ (sS.out _ KR) (fun hHeld => ?_)
   have HK2:=hid' (And.intro (HK.out.1.trans KR) (H.out.trans KR))
   clear hK K hkl fx hsj
   rcases HSJ.out with ⟨rfl,hh⟩ | ⟨rfl,hh⟩ | ⟨_,hh⟩
   ·
    have HH:=hid' hh
    clear hh
    refine take1 (i:=5) (v:=?vb4) rfl rfl (by kernel_rfl) (by kernel_rfl) (by kernel_rfl) (fun _ _ _ h => h) (Or.inl ⟨by kernel_rfl,?yb4⟩) hHeld ?rb4
    case yb4 =>
     intro w' hSw
     obtain ⟨hSw0,hSw1,hSw2,hSw3,hSw4,hSw5,hSw6,hSw7⟩:=hSw
     go_simp
     with_reducible rfl
    case rb4 =>
    simp only [List.set_cons_zero,List.set_cons_succ]
    refine wpAnyH_done (by kernel_rfl) ?_ _
    clear hHeld sS KR
    go_wp2_with fail
    go_ret2
    exact ⟨HK2.out.1,by rw [HO.out.1,HO.out.2,HRN.out]; unfold findT; rw [if_pos rfl,if_pos rfl,show cn = j by have:=HH.out; omega]; rfl⟩
   ·
    have HH:=hid' hh
    refine take1 (i:=5) (v:=?vb5) rfl rfl (by kernel_rfl) (by kernel_rfl) (by kernel_rfl) (fun _ _ _ h => h) (Or.inl ⟨by kernel_rfl,?yb5⟩) hHeld ?rb5
    case yb5 =>
     intro w' hSw
     obtain ⟨hSw0,hSw1,hSw2,hSw3,hSw4,hSw5,hSw6,hSw7⟩:=hSw
     go_simp
     with_reducible rfl
    case rb5 =>
    simp only [List.set_cons_zero,List.set_cons_succ]
    refine wpAnyH_done (by kernel_rfl) ?_ _
    clear hHeld sS KR
    go_wp2_with fail
    go_roundw
    case rel => exact ⟨j + 1,by omega,by go_num,HK2.out.2⟩
    case measure => show cn - ((j:Int) + 1).toNat < cn - (j:Int).toNat; omega
   ·
    exact absurd hh (by omega)
 ·
  have hc1:(cc != 0) = true:=by simpa using hc0
  have HC0:=hid' hc0
  go_wp2_with fail
  go_ret2
  exact ⟨HK.out.1,by rw [HO.out.1,HO.out.2,← HCC.out.1]; unfold findT; rw [if_pos rfl,if_neg HC0.out]; rfl⟩
end V
end Go.Proofs.YthfbfbfambbkaaaGreatDoor

namespace Go.Proofs.YthfbfbfambbkaaaGreatDoor
open Go.RowKit
namespace V
open Q (hid' Row3 Row2 okN okN_bd Scl RQ)
theorem ft_zero {w:World} {v:Value} (h:FT w v 0 1):FT w v 0 (10 ^ 18 * 10 ^ 18):=by
 have:=h.scale (10 ^ 18 * 10 ^ 18)
 rwa [Int.zero_mul,Nat.one_mul] at this
theorem ownK_zero (k:Int) (gs vs:List (Int × Int)):ownK k gs vs 0 = 0:=by unfold ownK; split <;> rfl
theorem line_step {g g' v C o:Int} (i:Nat) (hg:g.natAbs≤10 ^ 36) (hg':g'.natAbs≤10 ^ 36) (hv:v.natAbs≤10 ^ 36) (hC:C.natAbs≤i * 10 ^ 82) (hi:i≤4) (ho:C * 10 ^ 18 = o) :
  (g * (v * 1000000000)).natAbs≤10 ^ 100∧(g * (v * 1000000000) + C).natAbs≤10 ^ 100∧(g' * (v * 1000000000)).natAbs≤10 ^ 100∧(g * (v * 1000000000) + C - g' * (v * 1000000000)).natAbs≤10 ^ 100∧(g * (v * 1000000000) + C - g' * (v * 1000000000)) * 10 ^ 18 = o + (g - g') * (v * 10 ^ 27)∧(g * (v * 1000000000) + C - g' * (v * 1000000000)).natAbs≤(i + 1) * 10 ^ 82:=by
 have b1:(g * (v * 1000000000)).natAbs≤10 ^ 81:=by
  rw [Int.natAbs_mul,Int.natAbs_mul]
  exact Nat.le_trans (Nat.mul_le_mul hg (Nat.mul_le_mul hv (Nat.le_refl _))) (by decide)
 have b2:(g' * (v * 1000000000)).natAbs≤10 ^ 81:=by
  rw [Int.natAbs_mul,Int.natAbs_mul]
  exact Nat.le_trans (Nat.mul_le_mul hg' (Nat.mul_le_mul hv (Nat.le_refl _))) (by decide)
 have e:(g * (v * 1000000000) + C - g' * (v * 1000000000)) * 10 ^ 18 = o + (g - g') * (v * 10 ^ 27):=by
  have e1:∀ x:Int,x * (v * 1000000000) * 10 ^ 18 = x * (v * 10 ^ 27):=fun x => by rw [Int.mul_assoc,Int.mul_assoc]; rfl
  rw [Int.sub_mul,Int.add_mul,e1,e1,ho,Int.sub_mul]
  omega
 have hC4:C.natAbs≤4 * 10 ^ 82:=Nat.le_trans hC (Nat.mul_le_mul_right _ hi)
 generalize g * (v * 1000000000) = A at *
 generalize g' * (v * 1000000000) = B at *
 have p1:(10:Nat) ^ 81 = 1000000000000000000000000000000000000000000000000000000000000000000000000000000000:=by decide
 have p2:(10:Nat) ^ 82 = 10000000000000000000000000000000000000000000000000000000000000000000000000000000000:=by decide
 have p3:10000000000000000000000000000000000000000000000000000000000000000000000000000000000 * 10≤(10:Nat) ^ 100:=by decide
 rw [p1] at b1 b2
 rw [p2] at hC hC4 ⊢
 refine ⟨by omega,by omega,by omega,by omega,e,?_⟩
 rw [Nat.add_mul]
 omega
set_option maxRecDepth 100000 in
set_option maxHeartbeats 8000000 in
theorem lineR_any (s:ByteArray) (k:Int) (a1 a2:Option Addr) (n c m c':Nat) (gs vs:List (Int × Int)) (hn:n≤4611686018427387903) (hnm:n = m + 1∧n≤4) (hg:∀ i,i < n→okN (gs.getD i (0,0)).1 (gs.getD i (0,0)).2 = true) (hv:∀ i,i < m→okN (vs.getD i (0,0)).1 (vs.getD i (0,0)).2 = true):∀ (i:Nat) (w:World),i < n→NSl w (.slice a1 n c) gs→NSl w (.slice a2 m c') vs →
  Calls Tryz.prog 33 #[.agg #[.string s,.int .u8 k,.slice a1 n c,.slice a2 m c'],.int .i64 (i:Int)] w fun e w' => Kept w w'∧∃ u v C,e = .returned (.tuple #[u,v])∧FT w' u (U (gs.getD i (0,0)).1 (gs.getD i (0,0)).2) (10 ^ 18)∧FT w' v C (10 ^ 18 * 10 ^ 18)∧C * 10 ^ 18 = ownK k gs vs i∧C.natAbs≤i * 10 ^ 82:=by
 obtain ⟨hn0,hn1⟩:=hnm
 have hn2:m < n:=by omega
 have hn3:n≤m + 1:=by omega
 clear hn0
 intro i
 induction i with
 | zero =>
  intro w hi h1 h2
  have HO:=hid' (And.intro hg hv)
  have HS:=hid' (And.intro h1 h2)
  obtain ⟨bg,og,rfl,hbg,hcg⟩:=h1.at (j:=0) hi
  obtain ⟨e0,e1⟩:=hcg (0) hi
  have HC:=hid' (And.intro hbg (And.intro e0 e1))
  clear h1 h2 hg hv hcg e0 e1 hbg
  obtain ⟨x,hX⟩:∃ x,x = gs.getD (0) (0,0):=⟨_,rfl⟩
  have HOG:=hid' (HO.out.1 (0) hi)
  rw [← hX] at HC HOG ⊢
  have HX:=hid' hX
  clear hX
  obtain ⟨x0,x1⟩:=x
  dsimp only at HC HOG ⊢
  have d00:(0:Int) < (n:Int):=by omega
  have d01:0 < n:=hi
  go_enter Tryz.func33,Tryz.ntmps33
  go_upto_region 1 with fail
  have hM:=(Row4.alloc 24 w (.string s) (.int .u8 k) (.slice (some ⟨bg,og,none⟩) n c) (.slice a2 m c')).kept (((Kept.refl (w.alloc (.cells #[.string s,.int .u8 k,.slice (some ⟨bg,og,none⟩) n c,.slice a2 m c'] 24))).alloc (.cells #[.bool false,.slice none 0 0,.bool false,.slice none 0 0] 73)).alloc (.cells #[.bool false,.slice none 0 0,.bool false,.slice none 0 0] 73))
  have hZ1:=(F.FRow.alloc (w.alloc (.cells #[.string s,.int .u8 k,.slice (some ⟨bg,og,none⟩) n c,.slice a2 m c'] 24)) (.bool false) (.slice none 0 0) (.bool false) (.slice none 0 0)).kept ((Kept.refl ((w.alloc (.cells #[.string s,.int .u8 k,.slice (some ⟨bg,og,none⟩) n c,.slice a2 m c'] 24)).alloc (.cells #[.bool false,.slice none 0 0,.bool false,.slice none 0 0] 73))).alloc (.cells #[.bool false,.slice none 0 0,.bool false,.slice none 0 0] 73))
  have hZ2:=F.FRow.alloc ((w.alloc (.cells #[.string s,.int .u8 k,.slice (some ⟨bg,og,none⟩) n c,.slice a2 m c'] 24)).alloc (.cells #[.bool false,.slice none 0 0,.bool false,.slice none 0 0] 73)) (.bool false) (.slice none 0 0) (.bool false) (.slice none 0 0)
  have hK:=((((Kept.refl w).alloc (.cells #[.string s,.int .u8 k,.slice (some ⟨bg,og,none⟩) n c,.slice a2 m c'] 24)).alloc (.cells #[.bool false,.slice none 0 0,.bool false,.slice none 0 0] 73)).alloc (.cells #[.bool false,.slice none 0 0,.bool false,.slice none 0 0] 73))
  simp only [World.size_alloc] at hZ1
  simp only [World.size_alloc] at hZ2
  generalize ((w.alloc (.cells #[.string s,.int .u8 k,.slice (some ⟨bg,og,none⟩) n c,.slice a2 m c'] 24)).alloc (.cells #[.bool false,.slice none 0 0,.bool false,.slice none 0 0] 73)).alloc (.cells #[.bool false,.slice none 0 0,.bool false,.slice none 0 0] 73) = W at hM hZ1 hZ2 hK ⊢
  obtain ⟨z2,hqz2⟩:∃ q,q = w.heap.size + 1 + 1:=⟨_,rfl⟩
  rw [← hqz2] at hZ2 ⊢
  obtain ⟨z1,hqz1⟩:∃ q,q = w.heap.size + 1:=⟨_,rfl⟩
  rw [← hqz1] at hZ1 ⊢
  obtain ⟨p,hqp⟩:∃ q,q = w.heap.size:=⟨_,rfl⟩
  rw [← hqp] at hM ⊢
  have HPz1:=hid' (show w.heap.size≤z1 by omega)
  have HPz2:=hid' (show w.heap.size≤z2 by omega)
  have HZZ:=hid' (show z1 ≠ z2∧z2 ≠ z1 by omega)
  have HK:=hid' (And.intro hK (And.intro hM (And.intro hZ1 hZ2)))
  have q2:=hM.c2
  have d0:=(Below.cell hK (p:=⟨bg,og,none⟩) HC.out.1).trans HC.out.2.1
  have d1:=(Below.cell hK (p:=⟨bg,og + 1,none⟩) HC.out.1).trans HC.out.2.2
  clear hqp hqz1 hqz2 hM hZ1 hZ2 hK
  go_wp2_with fail
  refine (ft_num _ x0 x1 HOG.out).mono ?_
  rintro e w1 ⟨hk1,ug,rfl,tg⟩
  obtain ⟨g0,g1,g2,g3,g4,g5,g6,g7,rfl⟩:=tg.shape
  have HK:=hid' (And.intro (HK.out.1.trans hk1) (And.intro (HK.out.2.1.kept hk1) (And.intro (HK.out.2.2.1.kept hk1) (HK.out.2.2.2.kept hk1))))
  clear hk1 q2 d0 d1
  go_upto_region 2 with fail
  have hG1:=F.FRow.alloc w1 (.bool g0) (.slice g1 g2 g3) (.bool g4) (.slice g5 g6 g7)
  have kA:=((Kept.refl w1).alloc (.cells #[.bool g0,.slice g1 g2 g3,.bool g4,.slice g5 g6 g7] 73))
  generalize w1.alloc (.cells #[.bool g0,.slice g1 g2 g3,.bool g4,.slice g5 g6 g7] 73) = W1 at hG1 kA ⊢
  obtain ⟨pg,hqpg⟩:∃ q,q = w1.heap.size:=⟨_,rfl⟩
  rw [← hqpg] at hG1 ⊢
  have HNE:=hid' (show pg ≠ z1∧z2 ≠ z1∧pg ≠ z2∧z1 ≠ z2 by
   have a:=HK.out.2.2.1.lt
   have b:=HK.out.2.2.2.lt
   have:=HZZ.out
   omega)
  have HG:=hid' (And.intro hG1 (tg.kept kA))
  have HK:=hid' (And.intro (HK.out.1.trans kA) (And.intro (HK.out.2.1.kept kA) (And.intro (HK.out.2.2.1.kept kA) (HK.out.2.2.2.kept kA))))
  clear hqpg hG1 kA tg
  go_upto_region 3 with fail
  have KR:Kept W1 W1.drew:=(Kept.refl _).drew
  have KK:=HK.out.1.trans KR
  have gr:=HG.out.1.kept KR
  have z1r:=HK.out.2.2.1.kept KR
  have z2r:=HK.out.2.2.2.kept KR
  have tg:=HG.out.2.kept KR
  have sS:=hid' (fun (V:World) (r:F.FRow V pg (.bool g0) (.slice g1 g2 g3) (.bool g4) (.slice g5 g6 g7)) => (show V.cell? ⟨pg,0,none⟩ = some (.bool g0)∧V.cell? ⟨pg,1,none⟩ = some (.slice g1 g2 g3)∧V.cell? ⟨pg,2,none⟩ = some (.bool g4)∧V.cell? ⟨pg,3,none⟩ = some (.slice g5 g6 g7) from ⟨r.c0,r.c1,r.c2,r.c3⟩))
  refine wp_region_held_drew (S:=fun w' => w'.cell? ⟨pg,0,none⟩ = some (.bool g0)∧w'.cell? ⟨pg,1,none⟩ = some (.slice g1 g2 g3)∧w'.cell? ⟨pg,2,none⟩ = some (.bool g4)∧w'.cell? ⟨pg,3,none⟩ = some (.slice g5 g6 g7)) (by kernel_rfl) (sS.out _ gr) (fun hHeld => ?_)
  generalize W1.drew = Wd at KK gr z1r z2r tg hHeld ⊢
  clear KR
  refine take1 (i:=0) (v:=?vta1) rfl rfl (by kernel_rfl) (by kernel_rfl) (by kernel_rfl) (fun _ _ _ h => h) (Or.inl ⟨by kernel_rfl,?yta1⟩) hHeld ?rta1
  case yta1 =>
   intro w' hSw
   obtain ⟨hSw0,hSw1,hSw2,hSw3⟩:=hSw
   go_simp
   with_reducible rfl
  case rta1 =>
  simp only [List.set_cons_zero,List.set_cons_succ]
  refine ready1 (i:=1) (by kernel_rfl) rfl (by kernel_rfl) (fun K hK => ?_)
  go_simp
  refine (ft_int _ 0 (by decide)).mono ?_
  rintro e w5 ⟨hk5,uy,rfl,ty⟩
  obtain ⟨y0,y1,y2,y3,y4,y5,y6,y7,rfl⟩:=ty.shape
  have KK:=KK.trans hk5
  have gr:=gr.kept hk5
  have z1r:=z1r.kept hk5
  have z2r:=z2r.kept hk5
  have tg:=tg.kept hk5
  refine hK.out _ _ (sS.out _ gr) (fun hHeld => ?_)
  clear hK K hk5
  have f0:=z1r.c0
  have f1:=z1r.c1
  have f2:=z1r.c2
  have f3:=z1r.c3
  have fz:=z1r.fz
  refine ready1 (i:=2) (by kernel_rfl) rfl (by kernel_rfl) (fun K hK => ?_)
  go_simp
  have z1s:=frow_put4 z1r (.bool g0) (.slice g1 g2 g3) (.bool g4) (.slice g5 g6 g7)
  have gr:=frow_far gr HNE.out.1 (.bool g0) (.slice g1 g2 g3) (.bool g4) (.slice g5 g6 g7)
  have z2r:=frow_far z2r HNE.out.2.1 (.bool g0) (.slice g1 g2 g3) (.bool g4) (.slice g5 g6 g7)
  have tg:=FT.put4 tg z1r (.bool g0) (.slice g1 g2 g3) (.bool g4) (.slice g5 g6 g7)
  have ty:=FT.put4 ty z1r (.bool g0) (.slice g1 g2 g3) (.bool g4) (.slice g5 g6 g7)
  have KK:=kept_set4 KK HPz1.out (.bool g0) (.slice g1 g2 g3) (.bool g4) (.slice g5 g6 g7)
  unfold F.put4 at z1s gr z2r tg ty
  refine hK.out _ _ (sS.out _ gr) (fun hHeld => ?_)
  clear hK K f0 f1 f2 f3 fz z1r
  generalize (((w5.setCell ⟨z1,0,none⟩ (.bool g0)).setCell ⟨z1,1,none⟩ (.slice g1 g2 g3)).setCell ⟨z1,2,none⟩ (.bool g4)).setCell ⟨z1,3,none⟩ (.slice g5 g6 g7) = w6 at z1s gr z2r tg ty KK hHeld ⊢
  have f0:=z2r.c0
  have f1:=z2r.c1
  have f2:=z2r.c2
  have f3:=z2r.c3
  have fz:=z2r.fz
  refine ready1 (i:=3) (by kernel_rfl) rfl (by kernel_rfl) (fun K hK => ?_)
  go_simp
  have z2s:=frow_put4 z2r (.bool y0) (.slice y1 y2 y3) (.bool y4) (.slice y5 y6 y7)
  have gr:=frow_far gr HNE.out.2.2.1 (.bool y0) (.slice y1 y2 y3) (.bool y4) (.slice y5 y6 y7)
  have z1s:=frow_far z1s HNE.out.2.2.2 (.bool y0) (.slice y1 y2 y3) (.bool y4) (.slice y5 y6 y7)
  have tg:=FT.put4 tg z2r (.bool y0) (.slice y1 y2 y3) (.bool y4) (.slice y5 y6 y7)
  have ty:=FT.put4 ty z2r (.bool y0) (.slice y1 y2 y3) (.bool y4) (.slice y5 y6 y7)
  have KK:=kept_set4 KK HPz2.out (.bool y0) (.slice y1 y2 y3) (.bool y4) (.slice y5 y6 y7)
  unfold F.put4 at z2s gr z1s tg ty
  refine hK.out _ _ (sS.out _ gr) (fun hHeld => ?_)
  clear hK K f0 f1 f2 f3 fz z2r
  generalize (((w6.setCell ⟨z2,0,none⟩ (.bool y0)).setCell ⟨z2,1,none⟩ (.slice y1 y2 y3)).setCell ⟨z2,2,none⟩ (.bool y4)).setCell ⟨z2,3,none⟩ (.slice y5 y6 y7) = w7 at z2s gr z1s tg ty KK hHeld ⊢
  refine wpAnyH_done (by kernel_rfl) ?_ _
  have f0:=z1s.c0
  have f1:=z1s.c1
  have f2:=z1s.c2
  have f3:=z1s.c3
  have h0:=z2s.c0
  have h1:=z2s.c1
  have h2:=z2s.c2
  have h3:=z2s.c3
  clear gr sS hHeld
  go_wp2_with fail
  exact bodyPost_ret (v:=.tuple #[(.agg #[.bool g0,.slice g1 g2 g3,.bool g4,.slice g5 g6 g7]),(.agg #[.bool y0,.slice y1 y2 y3,.bool y4,.slice y5 y6 y7])]) (by simp [results,Tryz.results33,go_sem,f0,f1,f2,f3,h0,h1,h2,h3]) rfl ⟨KK,_,_,0,rfl,tg,ft_zero ty,by rw [ownK_zero]; rfl,by omega⟩
 | succ j ih =>
  intro w hi h1 h2
  have HO:=hid' (And.intro hg hv)
  have HS:=hid' (And.intro h1 h2)
  obtain ⟨bg,og,rfl,hbg,hcg⟩:=h1.at (j:=j + 1) hi
  obtain ⟨e0,e1⟩:=hcg (j + 1) hi
  have HC:=hid' (And.intro hbg (And.intro e0 e1))
  clear h1 h2 hg hv hcg e0 e1 hbg
  obtain ⟨x,hX⟩:∃ x,x = gs.getD (j + 1) (0,0):=⟨_,rfl⟩
  have HOG:=hid' (HO.out.1 (j + 1) hi)
  rw [← hX] at HC HOG ⊢
  have HX:=hid' hX
  clear hX
  obtain ⟨x0,x1⟩:=x
  dsimp only at HC HOG ⊢
  have ec:((j + 1:Nat):Int) = (j:Int) + 1:=by omega
  rw [ec]
  have z3:(j:Int) + 1 < (n:Int):=by omega
  have z4:(0:Int)≤(j:Int) + 1:=by omega
  have z5:((j:Int) + 1).toNat = j + 1:=by omega
  have z6:((j:Int) + 1 == 0) = false:=by simp; omega
  have z7:(j:Int) + 1 - 1 = (j:Int):=by omega
  have z8:IntKind.i64.wrap (j:Int) = (j:Int):=by rw [IntKind.wrap_i64]; omega
  clear ec
  go_enter Tryz.func33,Tryz.ntmps33
  go_upto_region 1 with fail
  have hM:=(Row4.alloc 24 w (.string s) (.int .u8 k) (.slice (some ⟨bg,og,none⟩) n c) (.slice a2 m c')).kept (((Kept.refl (w.alloc (.cells #[.string s,.int .u8 k,.slice (some ⟨bg,og,none⟩) n c,.slice a2 m c'] 24))).alloc (.cells #[.bool false,.slice none 0 0,.bool false,.slice none 0 0] 73)).alloc (.cells #[.bool false,.slice none 0 0,.bool false,.slice none 0 0] 73))
  have hZ1:=(F.FRow.alloc (w.alloc (.cells #[.string s,.int .u8 k,.slice (some ⟨bg,og,none⟩) n c,.slice a2 m c'] 24)) (.bool false) (.slice none 0 0) (.bool false) (.slice none 0 0)).kept ((Kept.refl ((w.alloc (.cells #[.string s,.int .u8 k,.slice (some ⟨bg,og,none⟩) n c,.slice a2 m c'] 24)).alloc (.cells #[.bool false,.slice none 0 0,.bool false,.slice none 0 0] 73))).alloc (.cells #[.bool false,.slice none 0 0,.bool false,.slice none 0 0] 73))
  have hZ2:=F.FRow.alloc ((w.alloc (.cells #[.string s,.int .u8 k,.slice (some ⟨bg,og,none⟩) n c,.slice a2 m c'] 24)).alloc (.cells #[.bool false,.slice none 0 0,.bool false,.slice none 0 0] 73)) (.bool false) (.slice none 0 0) (.bool false) (.slice none 0 0)
  have hK:=((((Kept.refl w).alloc (.cells #[.string s,.int .u8 k,.slice (some ⟨bg,og,none⟩) n c,.slice a2 m c'] 24)).alloc (.cells #[.bool false,.slice none 0 0,.bool false,.slice none 0 0] 73)).alloc (.cells #[.bool false,.slice none 0 0,.bool false,.slice none 0 0] 73))
  simp only [World.size_alloc] at hZ1
  simp only [World.size_alloc] at hZ2
  generalize ((w.alloc (.cells #[.string s,.int .u8 k,.slice (some ⟨bg,og,none⟩) n c,.slice a2 m c'] 24)).alloc (.cells #[.bool false,.slice none 0 0,.bool false,.slice none 0 0] 73)).alloc (.cells #[.bool false,.slice none 0 0,.bool false,.slice none 0 0] 73) = W at hM hZ1 hZ2 hK ⊢
  obtain ⟨z2,hqz2⟩:∃ q,q = w.heap.size + 1 + 1:=⟨_,rfl⟩
  rw [← hqz2] at hZ2 ⊢
  obtain ⟨z1,hqz1⟩:∃ q,q = w.heap.size + 1:=⟨_,rfl⟩
  rw [← hqz1] at hZ1 ⊢
  obtain ⟨p,hqp⟩:∃ q,q = w.heap.size:=⟨_,rfl⟩
  rw [← hqp] at hM ⊢
  have HPz1:=hid' (show w.heap.size≤z1 by omega)
  have HPz2:=hid' (show w.heap.size≤z2 by omega)
  have HZZ:=hid' (show z1 ≠ z2∧z2 ≠ z1 by omega)
  have HK:=hid' (And.intro hK (And.intro hM (And.intro hZ1 hZ2)))
  have q2:=hM.c2
  have d0:=(Below.cell hK (p:=⟨bg,og + (j + 1) * 2,none⟩) HC.out.1).trans HC.out.2.1
  have d1:=(Below.cell hK (p:=⟨bg,og + (j + 1) * 2 + 1,none⟩) HC.out.1).trans HC.out.2.2
  clear hqp hqz1 hqz2 hM hZ1 hZ2 hK
  go_wp2_with fail
  refine (ft_num _ x0 x1 HOG.out).mono ?_
  rintro e w1 ⟨hk1,ug,rfl,tg⟩
  obtain ⟨g0,g1,g2,g3,g4,g5,g6,g7,rfl⟩:=tg.shape
  have HK:=hid' (And.intro (HK.out.1.trans hk1) (And.intro (HK.out.2.1.kept hk1) (And.intro (HK.out.2.2.1.kept hk1) (HK.out.2.2.2.kept hk1))))
  clear hk1 q2 d0 d1
  go_upto_region 2 with fail
  have hG1:=F.FRow.alloc w1 (.bool g0) (.slice g1 g2 g3) (.bool g4) (.slice g5 g6 g7)
  have kA:=((Kept.refl w1).alloc (.cells #[.bool g0,.slice g1 g2 g3,.bool g4,.slice g5 g6 g7] 73))
  generalize w1.alloc (.cells #[.bool g0,.slice g1 g2 g3,.bool g4,.slice g5 g6 g7] 73) = W1 at hG1 kA ⊢
  obtain ⟨pg,hqpg⟩:∃ q,q = w1.heap.size:=⟨_,rfl⟩
  rw [← hqpg] at hG1 ⊢
  have HNE:=hid' (show pg ≠ z1∧z2 ≠ z1∧pg ≠ z2∧z1 ≠ z2 by
   have a:=HK.out.2.2.1.lt
   have b:=HK.out.2.2.2.lt
   have:=HZZ.out
   omega)
  have HG:=hid' (And.intro hG1 (tg.kept kA))
  have HK:=hid' (And.intro (HK.out.1.trans kA) (And.intro (HK.out.2.1.kept kA) (And.intro (HK.out.2.2.1.kept kA) (HK.out.2.2.2.kept kA))))
  clear hqpg hG1 kA tg
  have q1:=HK.out.2.1.c1
  by_cases hkd:k = 115
  ·
   have HKD:=hid' hkd
   have hkb:(k == 115) = true:=by simpa using hkd
   go_upto_region 3 with fail
   have KR:Kept W1 W1.drew:=(Kept.refl _).drew
   have KK:=HK.out.1.trans KR
   have gr:=HG.out.1.kept KR
   have z1r:=HK.out.2.2.1.kept KR
   have z2r:=HK.out.2.2.2.kept KR
   have tg:=HG.out.2.kept KR
   have sS:=hid' (fun (V:World) (r:F.FRow V pg (.bool g0) (.slice g1 g2 g3) (.bool g4) (.slice g5 g6 g7)) => (show V.cell? ⟨pg,0,none⟩ = some (.bool g0)∧V.cell? ⟨pg,1,none⟩ = some (.slice g1 g2 g3)∧V.cell? ⟨pg,2,none⟩ = some (.bool g4)∧V.cell? ⟨pg,3,none⟩ = some (.slice g5 g6 g7) from ⟨r.c0,r.c1,r.c2,r.c3⟩))
   refine wp_region_held_drew (S:=fun w' => w'.cell? ⟨pg,0,none⟩ = some (.bool g0)∧w'.cell? ⟨pg,1,none⟩ = some (.slice g1 g2 g3)∧w'.cell? ⟨pg,2,none⟩ = some (.bool g4)∧w'.cell? ⟨pg,3,none⟩ = some (.slice g5 g6 g7)) (by kernel_rfl) (sS.out _ gr) (fun hHeld => ?_)
   generalize W1.drew = Wd at KK gr z1r z2r tg hHeld ⊢
   clear KR
   refine take1 (i:=0) (v:=?vtb1) rfl rfl (by kernel_rfl) (by kernel_rfl) (by kernel_rfl) (fun _ _ _ h => h) (Or.inl ⟨by kernel_rfl,?ytb1⟩) hHeld ?rtb1
   case ytb1 =>
    intro w' hSw
    obtain ⟨hSw0,hSw1,hSw2,hSw3⟩:=hSw
    go_simp
    with_reducible rfl
   case rtb1 =>
   simp only [List.set_cons_zero,List.set_cons_succ]
   refine ready1 (i:=1) (by kernel_rfl) rfl (by kernel_rfl) (fun K hK => ?_)
   go_simp
   refine (ft_int _ 0 (by decide)).mono ?_
   rintro e w5 ⟨hk5,uy,rfl,ty⟩
   obtain ⟨y0,y1,y2,y3,y4,y5,y6,y7,rfl⟩:=ty.shape
   have KK:=KK.trans hk5
   have gr:=gr.kept hk5
   have z1r:=z1r.kept hk5
   have z2r:=z2r.kept hk5
   have tg:=tg.kept hk5
   refine hK.out _ _ (sS.out _ gr) (fun hHeld => ?_)
   clear hK K hk5
   have f0:=z1r.c0
   have f1:=z1r.c1
   have f2:=z1r.c2
   have f3:=z1r.c3
   have fz:=z1r.fz
   refine ready1 (i:=2) (by kernel_rfl) rfl (by kernel_rfl) (fun K hK => ?_)
   go_simp
   have z1s:=frow_put4 z1r (.bool g0) (.slice g1 g2 g3) (.bool g4) (.slice g5 g6 g7)
   have gr:=frow_far gr HNE.out.1 (.bool g0) (.slice g1 g2 g3) (.bool g4) (.slice g5 g6 g7)
   have z2r:=frow_far z2r HNE.out.2.1 (.bool g0) (.slice g1 g2 g3) (.bool g4) (.slice g5 g6 g7)
   have tg:=FT.put4 tg z1r (.bool g0) (.slice g1 g2 g3) (.bool g4) (.slice g5 g6 g7)
   have ty:=FT.put4 ty z1r (.bool g0) (.slice g1 g2 g3) (.bool g4) (.slice g5 g6 g7)
   have KK:=kept_set4 KK HPz1.out (.bool g0) (.slice g1 g2 g3) (.bool g4) (.slice g5 g6 g7)
   unfold F.put4 at z1s gr z2r tg ty
   refine hK.out _ _ (sS.out _ gr) (fun hHeld => ?_)
   clear hK K f0 f1 f2 f3 fz z1r
   generalize (((w5.setCell ⟨z1,0,none⟩ (.bool g0)).setCell ⟨z1,1,none⟩ (.slice g1 g2 g3)).setCell ⟨z1,2,none⟩ (.bool g4)).setCell ⟨z1,3,none⟩ (.slice g5 g6 g7) = w6 at z1s gr z2r tg ty KK hHeld ⊢
   have f0:=z2r.c0
   have f1:=z2r.c1
   have f2:=z2r.c2
   have f3:=z2r.c3
   have fz:=z2r.fz
   refine ready1 (i:=3) (by kernel_rfl) rfl (by kernel_rfl) (fun K hK => ?_)
   go_simp
   have z2s:=frow_put4 z2r (.bool y0) (.slice y1 y2 y3) (.bool y4) (.slice y5 y6 y7)
   have gr:=frow_far gr HNE.out.2.2.1 (.bool y0) (.slice y1 y2 y3) (.bool y4) (.slice y5 y6 y7)
   have z1s:=frow_far z1s HNE.out.2.2.2 (.bool y0) (.slice y1 y2 y3) (.bool y4) (.slice y5 y6 y7)
   have tg:=FT.put4 tg z2r (.bool y0) (.slice y1 y2 y3) (.bool y4) (.slice y5 y6 y7)
   have ty:=FT.put4 ty z2r (.bool y0) (.slice y1 y2 y3) (.bool y4) (.slice y5 y6 y7)
   have KK:=kept_set4 KK HPz2.out (.bool y0) (.slice y1 y2 y3) (.bool y4) (.slice y5 y6 y7)
   unfold F.put4 at z2s gr z1s tg ty
   refine hK.out _ _ (sS.out _ gr) (fun hHeld => ?_)
   clear hK K f0 f1 f2 f3 fz z2r
   generalize (((w6.setCell ⟨z2,0,none⟩ (.bool y0)).setCell ⟨z2,1,none⟩ (.slice y1 y2 y3)).setCell ⟨z2,2,none⟩ (.bool y4)).setCell ⟨z2,3,none⟩ (.slice y5 y6 y7) = w7 at z2s gr z1s tg ty KK hHeld ⊢
   refine wpAnyH_done (by kernel_rfl) ?_ _
   have f0:=z1s.c0
   have f1:=z1s.c1
   have f2:=z1s.c2
   have f3:=z1s.c3
   have h0:=z2s.c0
   have h1:=z2s.c1
   have h2:=z2s.c2
   have h3:=z2s.c3
   clear gr sS hHeld
   go_wp2_with fail
   exact bodyPost_ret (v:=.tuple #[(.agg #[.bool g0,.slice g1 g2 g3,.bool g4,.slice g5 g6 g7]),(.agg #[.bool y0,.slice y1 y2 y3,.bool y4,.slice y5 y6 y7])]) (by simp [results,Tryz.results33,go_sem,f0,f1,f2,f3,h0,h1,h2,h3]) rfl ⟨KK,_,_,0,rfl,tg,ft_zero ty,by unfold ownK; rw [if_pos HKD.out]; rfl,by omega⟩
  ·
   have HKD:=hid' hkd
   have hkb:(k == 115) = false:=by simpa using hkd
   have q0:=HK.out.2.1.c0
   have q1:=HK.out.2.1.c1
   have q2:=HK.out.2.1.c2
   have q3:=HK.out.2.1.c3
   go_wp2_with fail
   refine (ih _ (by omega) (HS.out.1.kept HK.out.1) (HS.out.2.kept HK.out.1)).mono ?_
   rintro e w2 ⟨hk2,uh,uc,C,rfl,th,tc,hC,hCb⟩
   obtain ⟨h0,h1,h2,h3,h4,h5,h6,h7,rfl⟩:=th.shape
   obtain ⟨d0,d1,d2,d3,d4,d5,d6,d7,rfl⟩:=tc.shape
   have HG:=hid' (And.intro (HG.out.1.kept hk2) (HG.out.2.kept hk2))
   have HCB:=hid' (And.intro hC hCb)
   have HK:=hid' (And.intro (HK.out.1.trans hk2) (And.intro (HK.out.2.1.kept hk2) (And.intro (HK.out.2.2.1.kept hk2) (HK.out.2.2.2.kept hk2))))
   clear hk2 q0 q1 q2 q3 hC hCb
   go_upto_region 5 with fail
   have hH1:=(F.FRow.alloc w2 (.bool h0) (.slice h1 h2 h3) (.bool h4) (.slice h5 h6 h7)).kept ((Kept.refl (w2.alloc (.cells #[.bool h0,.slice h1 h2 h3,.bool h4,.slice h5 h6 h7] 73))).alloc (.cells #[.bool d0,.slice d1 d2 d3,.bool d4,.slice d5 d6 d7] 73))
   have hC1:=F.FRow.alloc (w2.alloc (.cells #[.bool h0,.slice h1 h2 h3,.bool h4,.slice h5 h6 h7] 73)) (.bool d0) (.slice d1 d2 d3) (.bool d4) (.slice d5 d6 d7)
   have kA:=(((Kept.refl w2).alloc (.cells #[.bool h0,.slice h1 h2 h3,.bool h4,.slice h5 h6 h7] 73)).alloc (.cells #[.bool d0,.slice d1 d2 d3,.bool d4,.slice d5 d6 d7] 73))
   simp only [World.size_alloc] at hC1
   generalize (w2.alloc (.cells #[.bool h0,.slice h1 h2 h3,.bool h4,.slice h5 h6 h7] 73)).alloc (.cells #[.bool d0,.slice d1 d2 d3,.bool d4,.slice d5 d6 d7] 73) = W3 at hH1 hC1 kA ⊢
   obtain ⟨pc,hqpc⟩:∃ q,q = w2.heap.size + 1:=⟨_,rfl⟩
   rw [← hqpc] at hC1 ⊢
   obtain ⟨ph,hqph⟩:∃ q,q = w2.heap.size:=⟨_,rfl⟩
   rw [← hqph] at hH1 ⊢
   have HH:=hid' (And.intro hH1 (And.intro hC1 (And.intro (th.kept kA) (tc.kept kA))))
   have HN5:=hid' (show ph ≠ z1∧pc ≠ z1∧ph ≠ z2∧pc ≠ z2 by
    have a:=HK.out.2.2.1.lt
    have b:=HK.out.2.2.2.lt
    omega)
   have HG:=hid' (And.intro (HG.out.1.kept kA) (HG.out.2.kept kA))
   have HK:=hid' (And.intro (HK.out.1.trans kA) (And.intro (HK.out.2.1.kept kA) (And.intro (HK.out.2.2.1.kept kA) (HK.out.2.2.2.kept kA))))
   clear hqph hqpc hH1 hC1 kA th tc
   have q0:=HK.out.2.1.c0
   have q1:=HK.out.2.1.c1
   have q2:=HK.out.2.1.c2
   have q3:=HK.out.2.1.c3
   go_wp2_with fail
   refine (knotR_any s k (some ⟨bg,og,none⟩) a2 n c m c' vs j _ (HS.out.2.kept HK.out.1) (by omega) (HO.out.2 j (by omega))).mono ?_
   rintro e w4 ⟨hk4,ua,rfl,ta⟩
   obtain ⟨b0,b1,b2,b3,b4,b5,b6,b7,rfl⟩:=ta.shape
   have HG:=hid' (And.intro (HG.out.1.kept hk4) (HG.out.2.kept hk4))
   have HH:=hid' (And.intro (HH.out.1.kept hk4) (And.intro (HH.out.2.1.kept hk4) (And.intro (HH.out.2.2.1.kept hk4) (HH.out.2.2.2.kept hk4))))
   have HK:=hid' (And.intro (HK.out.1.trans hk4) (And.intro (HK.out.2.1.kept hk4) (And.intro (HK.out.2.2.1.kept hk4) (HK.out.2.2.2.kept hk4))))
   clear hk4 q0 q1 q2 q3
   go_upto_region 6 with fail
   have hA1:=F.FRow.alloc w4 (.bool b0) (.slice b1 b2 b3) (.bool b4) (.slice b5 b6 b7)
   have kA:=((Kept.refl w4).alloc (.cells #[.bool b0,.slice b1 b2 b3,.bool b4,.slice b5 b6 b7] 73))
   generalize w4.alloc (.cells #[.bool b0,.slice b1 b2 b3,.bool b4,.slice b5 b6 b7] 73) = W5 at hA1 kA ⊢
   obtain ⟨pa,hqpa⟩:∃ q,q = w4.heap.size:=⟨_,rfl⟩
   rw [← hqpa] at hA1 ⊢
   have HA:=hid' (And.intro hA1 (ta.kept kA))
   have HN6:=hid' (show ph ≠ z1∧pc ≠ z1∧pa ≠ z1∧ph ≠ z2∧pc ≠ z2∧pa ≠ z2 by
    have a:=HK.out.2.2.1.lt
    have b:=HK.out.2.2.2.lt
    have c:=HN5.out
    omega)
   have HG:=hid' (And.intro (HG.out.1.kept kA) (HG.out.2.kept kA))
   have HH:=hid' (And.intro (HH.out.1.kept kA) (And.intro (HH.out.2.1.kept kA) (And.intro (HH.out.2.2.1.kept kA) (HH.out.2.2.2.kept kA))))
   have HK:=hid' (And.intro (HK.out.1.trans kA) (And.intro (HK.out.2.1.kept kA) (And.intro (HK.out.2.2.1.kept kA) (HK.out.2.2.2.kept kA))))
   have HBD:=hid' (line_step (o:=ownK k gs vs j) j (u_abs (HO.out.1 j (by omega))) (u_abs HOG.out) (u_abs (HO.out.2 j (by omega))) HCB.out.2 (by omega) HCB.out.1)
   have HOW:=hid' (show ownK k gs vs (j + 1) = ownK k gs vs j + (U (gs.getD j (0,0)).1 (gs.getD j (0,0)).2 - U x0 x1) * (U (vs.getD j (0,0)).1 (vs.getD j (0,0)).2 * 10 ^ 27) by
    unfold ownK
    rw [if_neg HKD.out,if_neg HKD.out,ownS]
    unfold jmp
    rw [← HX.out])
   clear hqpa hA1 kA ta
   have KR:Kept W5 W5.drew:=(Kept.refl _).drew
   have KK:=HK.out.1.trans KR
   have gr:=HG.out.1.kept KR
   have hr:=HH.out.1.kept KR
   have cr:=HH.out.2.1.kept KR
   have ar:=HA.out.1.kept KR
   have z1r:=HK.out.2.2.1.kept KR
   have z2r:=HK.out.2.2.2.kept KR
   have tg:=HG.out.2.kept KR
   have th:=HH.out.2.2.1.kept KR
   have tc:=HH.out.2.2.2.kept KR
   have ta:=HA.out.2.kept KR
   have sS:=hid' (fun (V:World) (gr:F.FRow V pg (.bool g0) (.slice g1 g2 g3) (.bool g4) (.slice g5 g6 g7)) (hr:F.FRow V ph (.bool h0) (.slice h1 h2 h3) (.bool h4) (.slice h5 h6 h7)) (cr:F.FRow V pc (.bool d0) (.slice d1 d2 d3) (.bool d4) (.slice d5 d6 d7)) (ar:F.FRow V pa (.bool b0) (.slice b1 b2 b3) (.bool b4) (.slice b5 b6 b7)) => (show V.cell? ⟨pg,0,none⟩ = some (.bool g0)∧V.cell? ⟨pg,1,none⟩ = some (.slice g1 g2 g3)∧V.cell? ⟨pg,2,none⟩ = some (.bool g4)∧V.cell? ⟨pg,3,none⟩ = some (.slice g5 g6 g7)∧V.cell? ⟨ph,0,none⟩ = some (.bool h0)∧V.cell? ⟨ph,1,none⟩ = some (.slice h1 h2 h3)∧V.cell? ⟨ph,2,none⟩ = some (.bool h4)∧V.cell? ⟨ph,3,none⟩ = some (.slice h5 h6 h7)∧V.cell? ⟨pc,0,none⟩ = some (.bool d0)∧V.cell? ⟨pc,1,none⟩ = some (.slice d1 d2 d3)∧V.cell? ⟨pc,2,none⟩ = some (.bool d4)∧V.cell? ⟨pc,3,none⟩ = some (.slice d5 d6 d7)∧V.cell? ⟨pa,0,none⟩ = some (.bool b0)∧V.cell? ⟨pa,1,none⟩ = some (.slice b1 b2 b3)∧V.cell? ⟨pa,2,none⟩ = some (.bool b4)∧V.cell? ⟨pa,3,none⟩ = some (.slice b5 b6 b7) from ⟨gr.c0,gr.c1,gr.c2,gr.c3,hr.c0,hr.c1,hr.c2,hr.c3,cr.c0,cr.c1,cr.c2,cr.c3,ar.c0,ar.c1,ar.c2,ar.c3⟩))
   refine wp_region_held_drew (S:=fun w' => w'.cell? ⟨pg,0,none⟩ = some (.bool g0)∧w'.cell? ⟨pg,1,none⟩ = some (.slice g1 g2 g3)∧w'.cell? ⟨pg,2,none⟩ = some (.bool g4)∧w'.cell? ⟨pg,3,none⟩ = some (.slice g5 g6 g7)∧w'.cell? ⟨ph,0,none⟩ = some (.bool h0)∧w'.cell? ⟨ph,1,none⟩ = some (.slice h1 h2 h3)∧w'.cell? ⟨ph,2,none⟩ = some (.bool h4)∧w'.cell? ⟨ph,3,none⟩ = some (.slice h5 h6 h7)∧w'.cell? ⟨pc,0,none⟩ = some (.bool d0)∧w'.cell? ⟨pc,1,none⟩ = some (.slice d1 d2 d3)∧w'.cell? ⟨pc,2,none⟩ = some (.bool d4)∧w'.cell? ⟨pc,3,none⟩ = some (.slice d5 d6 d7)∧w'.cell? ⟨pa,0,none⟩ = some (.bool b0)∧w'.cell? ⟨pa,1,none⟩ = some (.slice b1 b2 b3)∧w'.cell? ⟨pa,2,none⟩ = some (.bool b4)∧w'.cell? ⟨pa,3,none⟩ = some (.slice b5 b6 b7)) (by kernel_rfl) (sS.out _ gr hr cr ar) (fun hHeld => ?_)
   generalize W5.drew = Wd at KK gr hr cr ar z1r z2r tg th tc ta hHeld ⊢
   clear KR
   refine take1 (i:=0) (v:=?vs1) rfl rfl (by kernel_rfl) (by kernel_rfl) (by kernel_rfl) (fun _ _ _ h => h) (Or.inl ⟨by kernel_rfl,?ys1⟩) hHeld ?rs1
   case ys1 =>
    intro w' hSw
    obtain ⟨hSw0,hSw1,hSw2,hSw3,hSw4,hSw5,hSw6,hSw7,hSw8,hSw9,hSw10,hSw11,hSw12,hSw13,hSw14,hSw15⟩:=hSw
    go_simp
    with_reducible rfl
   case rs1 =>
   simp only [List.set_cons_zero,List.set_cons_succ]
   refine take1 (i:=1) (v:=?vs2) rfl rfl (by kernel_rfl) (by kernel_rfl) (by kernel_rfl) (fun _ _ _ h => h) (Or.inl ⟨by kernel_rfl,?ys2⟩) hHeld ?rs2
   case ys2 =>
    intro w' hSw
    obtain ⟨hSw0,hSw1,hSw2,hSw3,hSw4,hSw5,hSw6,hSw7,hSw8,hSw9,hSw10,hSw11,hSw12,hSw13,hSw14,hSw15⟩:=hSw
    go_simp
    with_reducible rfl
   case rs2 =>
   simp only [List.set_cons_zero,List.set_cons_succ]
   refine take1 (i:=2) (v:=?vs3) rfl rfl (by kernel_rfl) (by kernel_rfl) (by kernel_rfl) (fun _ _ _ h => h) (Or.inl ⟨by kernel_rfl,?ys3⟩) hHeld ?rs3
   case ys3 =>
    intro w' hSw
    obtain ⟨hSw0,hSw1,hSw2,hSw3,hSw4,hSw5,hSw6,hSw7,hSw8,hSw9,hSw10,hSw11,hSw12,hSw13,hSw14,hSw15⟩:=hSw
    go_simp
    with_reducible rfl
   case rs3 =>
   simp only [List.set_cons_zero,List.set_cons_succ]
   refine take1 (i:=4) (v:=?vs4) rfl rfl (by kernel_rfl) (by kernel_rfl) (by kernel_rfl) (fun _ _ _ h => h) (Or.inl ⟨by kernel_rfl,?ys4⟩) hHeld ?rs4
   case ys4 =>
    intro w' hSw
    obtain ⟨hSw0,hSw1,hSw2,hSw3,hSw4,hSw5,hSw6,hSw7,hSw8,hSw9,hSw10,hSw11,hSw12,hSw13,hSw14,hSw15⟩:=hSw
    go_simp
    with_reducible rfl
   case rs4 =>
   simp only [List.set_cons_zero,List.set_cons_succ]
   refine take1 (i:=6) (v:=?vs5) rfl rfl (by kernel_rfl) (by kernel_rfl) (by kernel_rfl) (fun _ _ _ h => h) (Or.inl ⟨by kernel_rfl,?ys5⟩) hHeld ?rs5
   case ys5 =>
    intro w' hSw
    obtain ⟨hSw0,hSw1,hSw2,hSw3,hSw4,hSw5,hSw6,hSw7,hSw8,hSw9,hSw10,hSw11,hSw12,hSw13,hSw14,hSw15⟩:=hSw
    go_simp
    with_reducible rfl
   case rs5 =>
   simp only [List.set_cons_zero,List.set_cons_succ]
   refine take1 (i:=7) (v:=?vs6) rfl rfl (by kernel_rfl) (by kernel_rfl) (by kernel_rfl) (fun _ _ _ h => h) (Or.inl ⟨by kernel_rfl,?ys6⟩) hHeld ?rs6
   case ys6 =>
    intro w' hSw
    obtain ⟨hSw0,hSw1,hSw2,hSw3,hSw4,hSw5,hSw6,hSw7,hSw8,hSw9,hSw10,hSw11,hSw12,hSw13,hSw14,hSw15⟩:=hSw
    go_simp
    with_reducible rfl
   case rs6 =>
   simp only [List.set_cons_zero,List.set_cons_succ]
   refine ready1 (i:=3) (by kernel_rfl) rfl (by kernel_rfl) (fun K hK => ?_)
   go_simp
   refine (ft_times _ th ta (by decide) (by decide) HBD.out.1 (by decide)).mono ?_
   rintro e w6 ⟨hkq,u1,rfl,t1⟩
   obtain ⟨k0,k1,k2,k3,k4,k5,k6,k7,rfl⟩:=t1.shape
   have gr:=gr.kept hkq
   have hr:=hr.kept hkq
   have cr:=cr.kept hkq
   have ar:=ar.kept hkq
   have z1r:=z1r.kept hkq
   have z2r:=z2r.kept hkq
   have KK:=KK.trans hkq
   have tg:=tg.kept hkq
   have th:=th.kept hkq
   have tc:=tc.kept hkq
   have ta:=ta.kept hkq
   refine hK.out _ _ (sS.out _ gr hr cr ar) (fun hHeld => ?_)
   clear hK K hkq
   refine ready1 (i:=5) (by kernel_rfl) rfl (by kernel_rfl) (fun K hK => ?_)
   go_simp
   refine (ft_plus _ t1 tc (by decide) HBD.out.2.1 (by decide)).mono ?_
   rintro e w7 ⟨hkq,u2,rfl,t2⟩
   obtain ⟨l0,l1,l2,l3,l4,l5,l6,l7,rfl⟩:=t2.shape
   have gr:=gr.kept hkq
   have hr:=hr.kept hkq
   have cr:=cr.kept hkq
   have ar:=ar.kept hkq
   have z1r:=z1r.kept hkq
   have z2r:=z2r.kept hkq
   have KK:=KK.trans hkq
   have tg:=tg.kept hkq
   have ta:=ta.kept hkq
   refine hK.out _ _ (sS.out _ gr hr cr ar) (fun hHeld => ?_)
   clear hK K hkq
   refine ready1 (i:=8) (by kernel_rfl) rfl (by kernel_rfl) (fun K hK => ?_)
   go_simp
   refine (ft_times _ tg ta (by decide) (by decide) HBD.out.2.2.1 (by decide)).mono ?_
   rintro e w8 ⟨hkq,u3,rfl,t3⟩
   obtain ⟨o0,o1,o2,o3,o4,o5,o6,o7,rfl⟩:=t3.shape
   have gr:=gr.kept hkq
   have hr:=hr.kept hkq
   have cr:=cr.kept hkq
   have ar:=ar.kept hkq
   have z1r:=z1r.kept hkq
   have z2r:=z2r.kept hkq
   have KK:=KK.trans hkq
   have tg:=tg.kept hkq
   have t2:=t2.kept hkq
   refine hK.out _ _ (sS.out _ gr hr cr ar) (fun hHeld => ?_)
   clear hK K hkq
   refine ready1 (i:=9) (by kernel_rfl) rfl (by kernel_rfl) (fun K hK => ?_)
   go_simp
   refine (ft_less _ t2 t3 (by decide) HBD.out.2.2.2.1 (by decide)).mono ?_
   rintro e w9 ⟨hkq,u4,rfl,t4⟩
   obtain ⟨y0,y1,y2,y3,y4,y5,y6,y7,rfl⟩:=t4.shape
   have gr:=gr.kept hkq
   have hr:=hr.kept hkq
   have cr:=cr.kept hkq
   have ar:=ar.kept hkq
   have z1r:=z1r.kept hkq
   have z2r:=z2r.kept hkq
   have KK:=KK.trans hkq
   have tg:=tg.kept hkq
   refine hK.out _ _ (sS.out _ gr hr cr ar) (fun hHeld => ?_)
   clear hK K hkq
   have f0:=z1r.c0
   have f1:=z1r.c1
   have f2:=z1r.c2
   have f3:=z1r.c3
   have fz:=z1r.fz
   refine ready1 (i:=10) (by kernel_rfl) rfl (by kernel_rfl) (fun K hK => ?_)
   go_simp
   have z1s:=frow_put4 z1r (.bool g0) (.slice g1 g2 g3) (.bool g4) (.slice g5 g6 g7)
   have gr:=frow_far gr HNE.out.1 (.bool g0) (.slice g1 g2 g3) (.bool g4) (.slice g5 g6 g7)
   have hr:=frow_far hr HN6.out.1 (.bool g0) (.slice g1 g2 g3) (.bool g4) (.slice g5 g6 g7)
   have cr:=frow_far cr HN6.out.2.1 (.bool g0) (.slice g1 g2 g3) (.bool g4) (.slice g5 g6 g7)
   have ar:=frow_far ar HN6.out.2.2.1 (.bool g0) (.slice g1 g2 g3) (.bool g4) (.slice g5 g6 g7)
   have z2r:=frow_far z2r HNE.out.2.1 (.bool g0) (.slice g1 g2 g3) (.bool g4) (.slice g5 g6 g7)
   have tg:=FT.put4 tg z1r (.bool g0) (.slice g1 g2 g3) (.bool g4) (.slice g5 g6 g7)
   have t4:=FT.put4 t4 z1r (.bool g0) (.slice g1 g2 g3) (.bool g4) (.slice g5 g6 g7)
   have KK:=kept_set4 KK HPz1.out (.bool g0) (.slice g1 g2 g3) (.bool g4) (.slice g5 g6 g7)
   unfold F.put4 at z1s gr hr cr ar z2r tg t4
   refine hK.out _ _ (sS.out _ gr hr cr ar) (fun hHeld => ?_)
   clear hK K f0 f1 f2 f3 fz z1r
   generalize (((w9.setCell ⟨z1,0,none⟩ (.bool g0)).setCell ⟨z1,1,none⟩ (.slice g1 g2 g3)).setCell ⟨z1,2,none⟩ (.bool g4)).setCell ⟨z1,3,none⟩ (.slice g5 g6 g7) = wa at z1s gr hr cr ar z2r tg t4 KK hHeld ⊢
   have f0:=z2r.c0
   have f1:=z2r.c1
   have f2:=z2r.c2
   have f3:=z2r.c3
   have fz:=z2r.fz
   refine ready1 (i:=11) (by kernel_rfl) rfl (by kernel_rfl) (fun K hK => ?_)
   go_simp
   have z2s:=frow_put4 z2r (.bool y0) (.slice y1 y2 y3) (.bool y4) (.slice y5 y6 y7)
   have gr:=frow_far gr HNE.out.2.2.1 (.bool y0) (.slice y1 y2 y3) (.bool y4) (.slice y5 y6 y7)
   have hr:=frow_far hr HN6.out.2.2.2.1 (.bool y0) (.slice y1 y2 y3) (.bool y4) (.slice y5 y6 y7)
   have cr:=frow_far cr HN6.out.2.2.2.2.1 (.bool y0) (.slice y1 y2 y3) (.bool y4) (.slice y5 y6 y7)
   have ar:=frow_far ar HN6.out.2.2.2.2.2 (.bool y0) (.slice y1 y2 y3) (.bool y4) (.slice y5 y6 y7)
   have z1s:=frow_far z1s HNE.out.2.2.2 (.bool y0) (.slice y1 y2 y3) (.bool y4) (.slice y5 y6 y7)
   have tg:=FT.put4 tg z2r (.bool y0) (.slice y1 y2 y3) (.bool y4) (.slice y5 y6 y7)
   have t4:=FT.put4 t4 z2r (.bool y0) (.slice y1 y2 y3) (.bool y4) (.slice y5 y6 y7)
   have KK:=kept_set4 KK HPz2.out (.bool y0) (.slice y1 y2 y3) (.bool y4) (.slice y5 y6 y7)
   unfold F.put4 at z2s gr hr cr ar z1s tg t4
   refine hK.out _ _ (sS.out _ gr hr cr ar) (fun hHeld => ?_)
   clear hK K f0 f1 f2 f3 fz z2r
   generalize (((wa.setCell ⟨z2,0,none⟩ (.bool y0)).setCell ⟨z2,1,none⟩ (.slice y1 y2 y3)).setCell ⟨z2,2,none⟩ (.bool y4)).setCell ⟨z2,3,none⟩ (.slice y5 y6 y7) = wb at z2s gr hr cr ar z1s tg t4 KK hHeld ⊢
   refine wpAnyH_done (by kernel_rfl) ?_ _
   have f0:=z1s.c0
   have f1:=z1s.c1
   have f2:=z1s.c2
   have f3:=z1s.c3
   have h0:=z2s.c0
   have h1:=z2s.c1
   have h2:=z2s.c2
   have h3:=z2s.c3
   clear gr hr cr ar sS hHeld
   go_wp2_with fail
   exact bodyPost_ret (v:=.tuple #[(.agg #[.bool g0,.slice g1 g2 g3,.bool g4,.slice g5 g6 g7]),(.agg #[.bool y0,.slice y1 y2 y3,.bool y4,.slice y5 y6 y7])]) (by simp [results,Tryz.results33,go_sem,f0,f1,f2,f3,h0,h1,h2,h3]) rfl ⟨KK,_,_,_,rfl,tg,t4,HBD.out.2.2.2.2.1.trans HOW.out.symm,HBD.out.2.2.2.2.2⟩
end V
end Go.Proofs.YthfbfbfambbkaaaGreatDoor

namespace Go.Proofs.YthfbfbfambbkaaaGreatDoor
open Go.RowKit
namespace V
open Q (hid' Row3 Row2 okN okN_bd Scl RQ)
theorem give_rt {v:Value} {A:Int} {S:Nat} (w:World) (h:FT w v A S):Calls Tryz.prog 34 #[v] w fun e w' => Kept w w'∧∃ u,e = .returned u∧RT w.heap.size w' u A S:=by
 obtain ⟨N,D,⟨s,a1,k1,c1,t,a2,k2,c2,rfl,n1,n2,l1,l2⟩,p,hc,e⟩:=h
 refine (F.FGive_any s t a1 a2 k1 c1 k2 c2 N D w n1 n2 (by omega) (by omega)).mono ?_
 rintro e0 w' ⟨hk,s',ao,n,c,l,t',ap,n',c',l',rfl,m1,t1,i1,len1,z1,m2,t2,i2,len2,z2⟩
 have ht:t' = false:=by
  cases t'
  ·
   rfl
  ·
   exfalso
   have:M.int true l' = -(M.val l':Int):=rfl
   omega
 subst ht
 have hv:(M.val l':Int) = D:=by rw [← i2]; simp [M.int]
 refine ⟨hk,_,rfl,N,M.val l',⟨s',ao,ap,n,c,n',c',l,l',rfl,m1,m2,⟨R.of_right ⟨m1.1,t1,by omega,z1⟩,R.of_right ⟨m2.1,t2,by omega,z2⟩,by rw [i2]; exact p,?_⟩,i1,rfl⟩,by rw [hv]; exact e⟩
 rw [← M.natAbs_int s' l,i1,show M.val l' = D.natAbs by omega]
 exact hc
def PartT (w':World) (e:Ending) (rf kd:Int) (gs vs:List (Int × Int)) (i:Int):Prop :=
 (¬ rf = 0∧e = .returned (.tuple #[.agg #[.bool false,.slice none 0 0,.bool false,.slice none 0 0],.agg #[.bool false,.slice none 0 0,.bool false,.slice none 0 0],.int .i64 rf])) ∨ (rf = 0∧∃ u v,e = .returned (.tuple #[u,v,.int .i64 0])∧RT 0 w' u (U (gs.getD i.toNat (0,0)).1 (gs.getD i.toNat (0,0)).2) (10 ^ 18)∧RT 0 w' v (ownK kd gs vs i.toNat) (10 ^ 54))
set_option maxRecDepth 100000 in
set_option maxHeartbeats 8000000 in
theorem partR_any (s:ByteArray) (k:Int) (a1 a2:Option Addr) (n c m c':Nat) (gs vs:List (Int × Int)) (i':Int) (w:World) (hs:s.size≤9223372036854775807) (h1:NSl w (.slice a1 n c) gs) (h2:NSl w (.slice a2 m c') vs) (hn:n≤4611686018427387903) (hm:m≤4611686018427387903) :
  Calls Tryz.prog 10 #[.agg #[.string s,.int .u8 k,.slice a1 n c,.slice a2 m c'],.int .i64 i'] w fun e w' => Kept w w'∧PartT w' e (refM s.data.toList k gs vs i') k gs vs i':=by
 have HS:=hid' (And.intro h1 h2)
 have HL0:=hid' (show m = vs.length∧n = gs.length from ⟨h2.len,h1.len⟩)
 clear h1 h2
 obtain ⟨rf,hrf⟩:∃ rf,rf = refM s.data.toList k gs vs i':=⟨_,rfl⟩
 rw [← hrf]
 have HRE:=hid' hrf
 clear hrf
 have HFF:=hid' (rfaultM_any s k a1 a2 n c m c' gs vs i')
 have HLN:=hid' (lineR_any s k a1 a2 n c m c' gs vs hn)
 go_enter Tryz.func10,Tryz.ntmps10
 go_upto_region 1 with fail
 have hM:=(Row4.alloc 24 w (.string s) (.int .u8 k) (.slice a1 n c) (.slice a2 m c')).kept (((Kept.refl (w.alloc (.cells #[.string s,.int .u8 k,.slice a1 n c,.slice a2 m c'] 24))).alloc (.cells #[.bool false,.slice none 0 0,.bool false,.slice none 0 0] 29)).alloc (.cells #[.bool false,.slice none 0 0,.bool false,.slice none 0 0] 29))
 have hZ1:=(F.RRow.alloc (w.alloc (.cells #[.string s,.int .u8 k,.slice a1 n c,.slice a2 m c'] 24)) (.bool false) (.slice none 0 0) (.bool false) (.slice none 0 0)).kept ((Kept.refl ((w.alloc (.cells #[.string s,.int .u8 k,.slice a1 n c,.slice a2 m c'] 24)).alloc (.cells #[.bool false,.slice none 0 0,.bool false,.slice none 0 0] 29))).alloc (.cells #[.bool false,.slice none 0 0,.bool false,.slice none 0 0] 29))
 have hZ2:=F.RRow.alloc ((w.alloc (.cells #[.string s,.int .u8 k,.slice a1 n c,.slice a2 m c'] 24)).alloc (.cells #[.bool false,.slice none 0 0,.bool false,.slice none 0 0] 29)) (.bool false) (.slice none 0 0) (.bool false) (.slice none 0 0)
 have hK:=((((Kept.refl w).alloc (.cells #[.string s,.int .u8 k,.slice a1 n c,.slice a2 m c'] 24)).alloc (.cells #[.bool false,.slice none 0 0,.bool false,.slice none 0 0] 29)).alloc (.cells #[.bool false,.slice none 0 0,.bool false,.slice none 0 0] 29))
 simp only [World.size_alloc] at hZ1
 simp only [World.size_alloc] at hZ2
 generalize ((w.alloc (.cells #[.string s,.int .u8 k,.slice a1 n c,.slice a2 m c'] 24)).alloc (.cells #[.bool false,.slice none 0 0,.bool false,.slice none 0 0] 29)).alloc (.cells #[.bool false,.slice none 0 0,.bool false,.slice none 0 0] 29) = W at hM hZ1 hZ2 hK ⊢
 obtain ⟨z2,hqz2⟩:∃ q,q = w.heap.size + 1 + 1:=⟨_,rfl⟩
 rw [← hqz2] at hZ2 ⊢
 obtain ⟨z1,hqz1⟩:∃ q,q = w.heap.size + 1:=⟨_,rfl⟩
 rw [← hqz1] at hZ1 ⊢
 obtain ⟨p,hqp⟩:∃ q,q = w.heap.size:=⟨_,rfl⟩
 rw [← hqp] at hM ⊢
 have HPz1:=hid' (show w.heap.size≤z1 by omega)
 have HPz2:=hid' (show w.heap.size≤z2 by omega)
 have HZZ:=hid' (show z1 ≠ z2∧z2 ≠ z1 by omega)
 have HK:=hid' (And.intro hK (And.intro hM (And.intro hZ1 hZ2)))
 clear hqp hqz1 hqz2 hM hZ1 hZ2 hK
 have q0:=HK.out.2.1.c0
 have q1:=HK.out.2.1.c1
 have q2:=HK.out.2.1.c2
 have q3:=HK.out.2.1.c3
 go_wp2_with fail
 refine (HFF.out _ hs (HS.out.1.kept HK.out.1) (HS.out.2.kept HK.out.1) hn hm).mono ?_
 rintro e w2 ⟨hk2,rfl⟩
 have HK:=hid' (And.intro (HK.out.1.trans hk2) (And.intro (HK.out.2.1.kept hk2) (And.intro (HK.out.2.2.1.kept hk2) (HK.out.2.2.2.kept hk2))))
 clear hk2 q0 q1 q2 q3 HFF
 rw [← HRE.out]
 by_cases hr0:rf = 0
 ·
  have HRZ:=hid' (refM_zero' (s:=s.data.toList) (k:=k) (gs:=gs) (vs:=vs) (i:=i') (by rw [← HRE.out]; exact hr0))
  clear HRE
  have HR0:=hid' hr0
  subst hr0
  have HOA:=hid' (okM_all HRZ.out.1)
  have HOT:=hid' (okM_at HRZ.out.1)
  obtain ⟨i,rfl⟩:∃ i:Nat,i' = (i:Int):=⟨i'.toNat,by have:=HRZ.out.2; omega⟩
  have HL:=hid' (show m = vs.length∧n = gs.length∧(n = m + 1∧n≤4)∧i < n by
   have e0:=HL0.out
   have e3:=fits_len' HOA.out.2.2.2
   have:=HRZ.out.2
   exact ⟨e0.1,e0.2,by omega,by omega⟩)
  have q0:=HK.out.2.1.c0
  have q1:=HK.out.2.1.c1
  have q2:=HK.out.2.1.c2
  have q3:=HK.out.2.1.c3
  go_wp2_with fail
  refine (HLN.out HL.out.2.2.1 (fun j hj => HOT.out.1 j (by have:=HL.out; omega)) (fun j hj => HOT.out.2 j (by have:=HL.out; omega)) i _ HL.out.2.2.2 (HS.out.1.kept HK.out.1) (HS.out.2.kept HK.out.1)).mono ?_
  rintro e w3 ⟨hk3,ug,uc,C,rfl,tf,th,hC,_⟩
  obtain ⟨f0,f1,f2,f3,f4,f5,f6,f7,rfl⟩:=tf.shape
  obtain ⟨h0,h1,h2,h3,h4,h5,h6,h7,rfl⟩:=th.shape
  have HT:=hid' (And.intro tf (And.intro th hC))
  have HK:=hid' (And.intro (HK.out.1.trans hk3) (And.intro (HK.out.2.1.kept hk3) (And.intro (HK.out.2.2.1.kept hk3) (HK.out.2.2.2.kept hk3))))
  clear hk3 q0 q1 q2 q3 tf th hC HLN
  go_upto_region 5 with fail
  have hF1:=(F.FRow.alloc w3 (.bool f0) (.slice f1 f2 f3) (.bool f4) (.slice f5 f6 f7)).kept ((Kept.refl (w3.alloc (.cells #[.bool f0,.slice f1 f2 f3,.bool f4,.slice f5 f6 f7] 73))).alloc (.cells #[.bool h0,.slice h1 h2 h3,.bool h4,.slice h5 h6 h7] 73))
  have hE1:=F.FRow.alloc (w3.alloc (.cells #[.bool f0,.slice f1 f2 f3,.bool f4,.slice f5 f6 f7] 73)) (.bool h0) (.slice h1 h2 h3) (.bool h4) (.slice h5 h6 h7)
  have kA:=(((Kept.refl w3).alloc (.cells #[.bool f0,.slice f1 f2 f3,.bool f4,.slice f5 f6 f7] 73)).alloc (.cells #[.bool h0,.slice h1 h2 h3,.bool h4,.slice h5 h6 h7] 73))
  simp only [World.size_alloc] at hE1
  generalize (w3.alloc (.cells #[.bool f0,.slice f1 f2 f3,.bool f4,.slice f5 f6 f7] 73)).alloc (.cells #[.bool h0,.slice h1 h2 h3,.bool h4,.slice h5 h6 h7] 73) = W3 at hF1 hE1 kA ⊢
  obtain ⟨pe,hqpe⟩:∃ q,q = w3.heap.size + 1:=⟨_,rfl⟩
  rw [← hqpe] at hE1 ⊢
  obtain ⟨pf,hqpf⟩:∃ q,q = w3.heap.size:=⟨_,rfl⟩
  rw [← hqpf] at hF1 ⊢
  have HT:=hid' (And.intro (HT.out.1.kept kA) (And.intro (HT.out.2.1.kept kA) (And.intro HT.out.2.2 (And.intro hF1 hE1))))
  have HNE:=hid' (show z2 ≠ z1∧z1 ≠ z2∧pf ≠ z1∧pe ≠ z1∧pf ≠ z2∧pe ≠ z2 by
   have a:=HK.out.2.2.1.lt
   have b:=HK.out.2.2.2.lt
   have:=HZZ.out
   omega)
  have HK:=hid' (And.intro (HK.out.1.trans kA) (And.intro (HK.out.2.1.kept kA) (And.intro (HK.out.2.2.1.kept kA) (HK.out.2.2.2.kept kA))))
  clear hqpf hqpe hF1 hE1 kA
  have KR:Kept W3 W3.drew:=(Kept.refl _).drew
  have KK:=HK.out.1.trans KR
  have fr:=HT.out.2.2.2.1.kept KR
  have er:=HT.out.2.2.2.2.kept KR
  have z1r:=HK.out.2.2.1.kept KR
  have z2r:=HK.out.2.2.2.kept KR
  have tf:=HT.out.1.kept KR
  have th:=HT.out.2.1.kept KR
  have sS:=hid' (fun (V:World) (fr:F.FRow V pf (.bool f0) (.slice f1 f2 f3) (.bool f4) (.slice f5 f6 f7)) (er:F.FRow V pe (.bool h0) (.slice h1 h2 h3) (.bool h4) (.slice h5 h6 h7)) => (show V.cell? ⟨pf,0,none⟩ = some (.bool f0)∧V.cell? ⟨pf,1,none⟩ = some (.slice f1 f2 f3)∧V.cell? ⟨pf,2,none⟩ = some (.bool f4)∧V.cell? ⟨pf,3,none⟩ = some (.slice f5 f6 f7)∧V.cell? ⟨pe,0,none⟩ = some (.bool h0)∧V.cell? ⟨pe,1,none⟩ = some (.slice h1 h2 h3)∧V.cell? ⟨pe,2,none⟩ = some (.bool h4)∧V.cell? ⟨pe,3,none⟩ = some (.slice h5 h6 h7) from ⟨fr.c0,fr.c1,fr.c2,fr.c3,er.c0,er.c1,er.c2,er.c3⟩))
  refine wp_region_held_drew (S:=fun w' => w'.cell? ⟨pf,0,none⟩ = some (.bool f0)∧w'.cell? ⟨pf,1,none⟩ = some (.slice f1 f2 f3)∧w'.cell? ⟨pf,2,none⟩ = some (.bool f4)∧w'.cell? ⟨pf,3,none⟩ = some (.slice f5 f6 f7)∧w'.cell? ⟨pe,0,none⟩ = some (.bool h0)∧w'.cell? ⟨pe,1,none⟩ = some (.slice h1 h2 h3)∧w'.cell? ⟨pe,2,none⟩ = some (.bool h4)∧w'.cell? ⟨pe,3,none⟩ = some (.slice h5 h6 h7)) (by kernel_rfl) (sS.out _ fr er) (fun hHeld => ?_)
  generalize W3.drew = Wd at KK fr er z1r z2r tf th hHeld ⊢
  clear KR
  refine take1 (i:=0) (v:=?va1) rfl rfl (by kernel_rfl) (by kernel_rfl) (by kernel_rfl) (fun _ _ _ h => h) (Or.inl ⟨by kernel_rfl,?ya1⟩) hHeld ?ra1
  case ya1 =>
   intro w' hSw
   obtain ⟨hSw0,hSw1,hSw2,hSw3,hSw4,hSw5,hSw6,hSw7⟩:=hSw
   go_simp
   with_reducible rfl
  case ra1 =>
  simp only [List.set_cons_zero,List.set_cons_succ]
  refine take1 (i:=2) (v:=?va2) rfl rfl (by kernel_rfl) (by kernel_rfl) (by kernel_rfl) (fun _ _ _ h => h) (Or.inl ⟨by kernel_rfl,?ya2⟩) hHeld ?ra2
  case ya2 =>
   intro w' hSw
   obtain ⟨hSw0,hSw1,hSw2,hSw3,hSw4,hSw5,hSw6,hSw7⟩:=hSw
   go_simp
   with_reducible rfl
  case ra2 =>
  simp only [List.set_cons_zero,List.set_cons_succ]
  refine ready1 (i:=1) (by kernel_rfl) rfl (by kernel_rfl) (fun K hK => ?_)
  go_simp
  refine (give_rt _ tf).mono ?_
  rintro e w4 ⟨hk4,ua,rfl,tg⟩
  obtain ⟨a0,a1,a2,a3,a4,a5,a6,rfl⟩:=tg.shape
  have tg:=RT.mono tg (Nat.zero_le _)
  have KK:=KK.trans hk4
  have fr:=fr.kept hk4
  have er:=er.kept hk4
  have z1r:=z1r.kept hk4
  have z2r:=z2r.kept hk4
  have th:=th.kept hk4
  refine hK.out _ _ (sS.out _ fr er) (fun hHeld => ?_)
  clear hK K hk4 tf
  refine ready1 (i:=3) (by kernel_rfl) rfl (by kernel_rfl) (fun K hK => ?_)
  go_simp
  refine (give_rt _ th).mono ?_
  rintro e w5 ⟨hk5,ub,rfl,tc⟩
  obtain ⟨b0,b1,b2,b3,b4,b5,b6,rfl⟩:=tc.shape
  have tc:=RT.mono tc (Nat.zero_le _)
  have KK:=KK.trans hk5
  have fr:=fr.kept hk5
  have er:=er.kept hk5
  have z1r:=z1r.kept hk5
  have z2r:=z2r.kept hk5
  have tg:=tg.kept hk5
  refine hK.out _ _ (sS.out _ fr er) (fun hHeld => ?_)
  clear hK K hk5 th
  have f0:=z1r.c0
  have f1:=z1r.c1
  have f2:=z1r.c2
  have f3:=z1r.c3
  have fz:=z1r.fz
  refine ready1 (i:=4) (by kernel_rfl) rfl (by kernel_rfl) (fun K hK => ?_)
  go_simp
  have z1s:=F.RRow.set z1r (.bool a0) (.slice a1 a3 a4) (.bool false) (.slice a2 a5 a6)
  have z2r:=F.RRow.far z2r HNE.out.1 (.bool a0) (.slice a1 a3 a4) (.bool false) (.slice a2 a5 a6)
  have fr:=frow_far fr HNE.out.2.2.1 (.bool a0) (.slice a1 a3 a4) (.bool false) (.slice a2 a5 a6)
  have er:=frow_far er HNE.out.2.2.2.1 (.bool a0) (.slice a1 a3 a4) (.bool false) (.slice a2 a5 a6)
  have tg:=RT.set4 tg z1r (.bool a0) (.slice a1 a3 a4) (.bool false) (.slice a2 a5 a6)
  have tc:=RT.set4 tc z1r (.bool a0) (.slice a1 a3 a4) (.bool false) (.slice a2 a5 a6)
  have KK:=kept_set4 KK HPz1.out (.bool a0) (.slice a1 a3 a4) (.bool false) (.slice a2 a5 a6)
  unfold F.put4 at fr er
  refine hK.out _ _ (sS.out _ fr er) (fun hHeld => ?_)
  clear hK K f0 f1 f2 f3 fz z1r
  generalize (((w5.setCell ⟨z1,0,none⟩ (.bool a0)).setCell ⟨z1,1,none⟩ (.slice a1 a3 a4)).setCell ⟨z1,2,none⟩ (.bool false)).setCell ⟨z1,3,none⟩ (.slice a2 a5 a6) = w6 at z1s z2r fr er tg tc KK hHeld ⊢
  have f0:=z2r.c0
  have f1:=z2r.c1
  have f2:=z2r.c2
  have f3:=z2r.c3
  have fz:=z2r.fz
  refine ready1 (i:=5) (by kernel_rfl) rfl (by kernel_rfl) (fun K hK => ?_)
  go_simp
  have z2s:=F.RRow.set z2r (.bool b0) (.slice b1 b3 b4) (.bool false) (.slice b2 b5 b6)
  have z1s:=F.RRow.far z1s HNE.out.2.1 (.bool b0) (.slice b1 b3 b4) (.bool false) (.slice b2 b5 b6)
  have fr:=frow_far fr HNE.out.2.2.2.2.1 (.bool b0) (.slice b1 b3 b4) (.bool false) (.slice b2 b5 b6)
  have er:=frow_far er HNE.out.2.2.2.2.2 (.bool b0) (.slice b1 b3 b4) (.bool false) (.slice b2 b5 b6)
  have tg:=RT.set4 tg z2r (.bool b0) (.slice b1 b3 b4) (.bool false) (.slice b2 b5 b6)
  have tc:=RT.set4 tc z2r (.bool b0) (.slice b1 b3 b4) (.bool false) (.slice b2 b5 b6)
  have KK:=kept_set4 KK HPz2.out (.bool b0) (.slice b1 b3 b4) (.bool false) (.slice b2 b5 b6)
  unfold F.put4 at fr er
  refine hK.out _ _ (sS.out _ fr er) (fun hHeld => ?_)
  clear hK K f0 f1 f2 f3 fz z2r
  generalize (((w6.setCell ⟨z2,0,none⟩ (.bool b0)).setCell ⟨z2,1,none⟩ (.slice b1 b3 b4)).setCell ⟨z2,2,none⟩ (.bool false)).setCell ⟨z2,3,none⟩ (.slice b2 b5 b6) = w7 at z2s z1s fr er tg tc KK hHeld ⊢
  refine take1 (i:=6) (v:=?va3) rfl rfl (by kernel_rfl) (by kernel_rfl) (by kernel_rfl) (fun _ _ _ h => h) (Or.inl ⟨by kernel_rfl,?ya3⟩) hHeld ?ra3
  case ya3 =>
   intro w' hSw
   obtain ⟨hSw0,hSw1,hSw2,hSw3,hSw4,hSw5,hSw6,hSw7⟩:=hSw
   go_simp
   with_reducible rfl
  case ra3 =>
  simp only [List.set_cons_zero,List.set_cons_succ]
  refine wpAnyH_done (by kernel_rfl) ?_ _
  have f0:=z1s.c0
  have f1:=z1s.c1
  have f2:=z1s.c2
  have f3:=z1s.c3
  have g0:=z2s.c0
  have g1:=z2s.c1
  have g2:=z2s.c2
  have g3:=z2s.c3
  have tc:=RT.scale tc (10 ^ 18)
  rw [show (10 ^ 18 * 10 ^ 18 * 10 ^ 18:Nat) = 10 ^ 54 by decide,show ((10 ^ 18:Nat):Int) = 10 ^ 18 by decide,HT.out.2.2.1] at tc
  clear fr er sS hHeld
  go_wp2_with fail
  exact bodyPost_ret (v:=.tuple #[(.agg #[.bool a0,.slice a1 a3 a4,.bool false,.slice a2 a5 a6]),(.agg #[.bool b0,.slice b1 b3 b4,.bool false,.slice b2 b5 b6]),.int .i64 0]) (by simp [results,Tryz.results10,go_sem,f0,f1,f2,f3,g0,g1,g2,g3]) rfl ⟨KK,.inr ⟨rfl,_,_,rfl,by rw [Int.toNat_natCast]; exact tg,by rw [Int.toNat_natCast]; exact tc⟩⟩
 ·
  have r4:=HK.out.2.2.1
  have r5:=HK.out.2.2.2
  have f0:=r4.c0
  have f1:=r4.c1
  have f2:=r4.c2
  have f3:=r4.c3
  have fz:=r4.fz
  have g0:=r5.c0
  have g1:=r5.c1
  have g2:=r5.c2
  have g3:=r5.c3
  have gz:=r5.fz
  clear r4 r5
  have HZ:=HZZ.out
  go_wp2_with fail
  exact bodyPost_ret (v:=.tuple #[.agg #[.bool false,.slice none 0 0,.bool false,.slice none 0 0],.agg #[.bool false,.slice none 0 0,.bool false,.slice none 0 0],.int .i64 rf]) (by simp [results,Tryz.results10,go_sem,f0,f1,f2,f3,g0,g1,g2,g3]) rfl ⟨kept_set4 (kept_set4 HK.out.1 HPz1.out _ _ _ _) HPz2.out _ _ _ _,.inl ⟨hr0,rfl⟩⟩
end V
end Go.Proofs.YthfbfbfambbkaaaGreatDoor
