/- Lemmas. -/
import Derived.Test.YthfbfbfambbkaaaGreatDoorTk
import Derived.Test.YthfbfbfambbkaaaGreatDoorGat
import Derived.Test.YthfbfbfambbkaaaGreatDoorGas
import Derived.Test.YthfbfbfambbkaaaGreatDoorGap
import Derived.Deep.AppendLies
import Derived.Test.YthfbfbfambbkaaaGreatDoorGan
namespace Go.Proofs.YthfbfbfambbkaaaGreatDoor
open Go.RowKit
namespace V
open Q (hid' Row3 Row2 okN okN_bd Scl RQ)
theorem give_rt {v:Value} {A:Int} {S:Nat} (w:World) (h:FT w v A S):Calls Tryz.prog 34 #[v] w fun e w' => Kept w w'/\∃ u,e = .returned u/\RT w.heap.size w' u A S:=by
 obtain ⟨N,D,⟨s,a1,k1,c1,t,a2,k2,c2,rfl,n1,n2,l1,l2⟩,p,hc,e⟩:=h
 refine (F.FGive_any s t a1 a2 k1 c1 k2 c2 N D w n1 n2 (by omega) (by omega)).mono ?_
 rintro e0 w' ⟨hk,s',ao,n,c,l,t',ap,n',c',l',rfl,m1,t1,i1,len1,z1,m2,t2,i2,len2,z2⟩
 have ht:t' = false:=by
  cases t'
  ·
   rfl
  ·
   exfalso
   have:M.int true l' = -(M.val l':Int):=rfl
   omega
 subst ht
 have hv:(M.val l':Int) = D:=by rw [<- i2]; simp [M.int]
 refine ⟨hk,_,rfl,N,M.val l',⟨s',ao,ap,n,c,n',c',l,l',rfl,m1,m2,⟨R.of_right ⟨m1.1,t1,by omega,z1⟩,R.of_right ⟨m2.1,t2,by omega,z2⟩,by rw [i2]; exact p,?_⟩,i1,rfl⟩,by rw [hv]; exact e⟩
 rw [<- M.natAbs_int s' l,i1,show M.val l' = D.natAbs by omega]
 exact hc
def PartT (w':World) (e:Ending) (rf kd:Int) (gs vs:List (Int × Int)) (i:Int):Prop :=
 (¬ rf = 0/\e = .returned (.tuple #[.agg #[.bool false,.slice none 0 0,.bool false,.slice none 0 0],.agg #[.bool false,.slice none 0 0,.bool false,.slice none 0 0],.int .i64 rf])) ∨ (rf = 0/\∃ u v,e = .returned (.tuple #[u,v,.int .i64 0])/\RT 0 w' u (U (gs.getD i.toNat (0,0)).1 (gs.getD i.toNat (0,0)).2) (10 ^ 18)/\RT 0 w' v (ownK kd gs vs i.toNat) (10 ^ 54))
set_option maxRecDepth 100000 in
set_option maxHeartbeats 8000000 in
theorem partR_any (s:ByteArray) (k:Int) (a1 a2:Option Addr) (n c m c':Nat) (gs vs:List (Int × Int)) (i':Int) (w:World) (hs:s.size<=9223372036854775807) (h1:NSl w (.slice a1 n c) gs) (h2:NSl w (.slice a2 m c') vs) (hn:n<=4611686018427387903) (hm:m<=4611686018427387903) :
  Calls Tryz.prog 10 #[.agg #[.string s,.int .u8 k,.slice a1 n c,.slice a2 m c'],.int .i64 i'] w fun e w' => Kept w w'/\PartT w' e (refM s.data.toList k gs vs i') k gs vs i':=by
 have HS:=hid' (And.intro h1 h2)
 have HL0:=hid' (show m = vs.length/\n = gs.length from ⟨h2.len,h1.len⟩)
 clear h1 h2
 obtain ⟨rf,hrf⟩:∃ rf,rf = refM s.data.toList k gs vs i':=⟨_,rfl⟩
 rw [<- hrf]
 have HRE:=hid' hrf
 clear hrf
 have HFF:=hid' (rfaultM_any s k a1 a2 n c m c' gs vs i')
 have HLN:=hid' (lineR_any s k a1 a2 n c m c' gs vs hn)
 go_enter Tryz.func10,Tryz.ntmps10
 go_upto_region 1 with fail
 have hM:=(Row4.alloc 24 w (.string s) (.int .u8 k) (.slice a1 n c) (.slice a2 m c')).kept (((Kept.refl (w.alloc (.cells #[.string s,.int .u8 k,.slice a1 n c,.slice a2 m c'] 24))).alloc (.cells #[.bool false,.slice none 0 0,.bool false,.slice none 0 0] 29)).alloc (.cells #[.bool false,.slice none 0 0,.bool false,.slice none 0 0] 29))
 have hZ1:=(F.RRow.alloc (w.alloc (.cells #[.string s,.int .u8 k,.slice a1 n c,.slice a2 m c'] 24)) (.bool false) (.slice none 0 0) (.bool false) (.slice none 0 0)).kept ((Kept.refl ((w.alloc (.cells #[.string s,.int .u8 k,.slice a1 n c,.slice a2 m c'] 24)).alloc (.cells #[.bool false,.slice none 0 0,.bool false,.slice none 0 0] 29))).alloc (.cells #[.bool false,.slice none 0 0,.bool false,.slice none 0 0] 29))
 have hZ2:=F.RRow.alloc ((w.alloc (.cells #[.string s,.int .u8 k,.slice a1 n c,.slice a2 m c'] 24)).alloc (.cells #[.bool false,.slice none 0 0,.bool false,.slice none 0 0] 29)) (.bool false) (.slice none 0 0) (.bool false) (.slice none 0 0)
 have hK:=((((Kept.refl w).alloc (.cells #[.string s,.int .u8 k,.slice a1 n c,.slice a2 m c'] 24)).alloc (.cells #[.bool false,.slice none 0 0,.bool false,.slice none 0 0] 29)).alloc (.cells #[.bool false,.slice none 0 0,.bool false,.slice none 0 0] 29))
 simp only [World.size_alloc] at hZ1
 simp only [World.size_alloc] at hZ2
 generalize ((w.alloc (.cells #[.string s,.int .u8 k,.slice a1 n c,.slice a2 m c'] 24)).alloc (.cells #[.bool false,.slice none 0 0,.bool false,.slice none 0 0] 29)).alloc (.cells #[.bool false,.slice none 0 0,.bool false,.slice none 0 0] 29) = W at hM hZ1 hZ2 hK ⊢
 obtain ⟨z2,hqz2⟩:∃ q,q = w.heap.size + 1 + 1:=⟨_,rfl⟩
 rw [<- hqz2] at hZ2 ⊢
 obtain ⟨z1,hqz1⟩:∃ q,q = w.heap.size + 1:=⟨_,rfl⟩
 rw [<- hqz1] at hZ1 ⊢
 obtain ⟨p,hqp⟩:∃ q,q = w.heap.size:=⟨_,rfl⟩
 rw [<- hqp] at hM ⊢
 have HPz1:=hid' (show w.heap.size<=z1 by omega)
 have HPz2:=hid' (show w.heap.size<=z2 by omega)
 have HZZ:=hid' (show z1 ≠ z2/\z2 ≠ z1 by omega)
 have HK:=hid' (And.intro hK (And.intro hM (And.intro hZ1 hZ2)))
 clear hqp hqz1 hqz2 hM hZ1 hZ2 hK
 have q0:=HK.out.2.1.c0
 have q1:=HK.out.2.1.c1
 have q2:=HK.out.2.1.c2
 have q3:=HK.out.2.1.c3
 go_wp2_with fail
 refine (HFF.out _ hs (HS.out.1.kept HK.out.1) (HS.out.2.kept HK.out.1) hn hm).mono ?_
 rintro e w2 ⟨hk2,rfl⟩
 have HK:=hid' (And.intro (HK.out.1.trans hk2) (And.intro (HK.out.2.1.kept hk2) (And.intro (HK.out.2.2.1.kept hk2) (HK.out.2.2.2.kept hk2))))
 clear hk2 q0 q1 q2 q3 HFF
 rw [<- HRE.out]
 by_cases hr0:rf = 0
 ·
  have HRZ:=hid' (refM_zero' (s:=s.data.toList) (k:=k) (gs:=gs) (vs:=vs) (i:=i') (by rw [<- HRE.out]; exact hr0))
  clear HRE
  have HR0:=hid' hr0
  subst hr0
  have HOA:=hid' (okM_all HRZ.out.1)
  have HOT:=hid' (okM_at HRZ.out.1)
  obtain ⟨i,rfl⟩:∃ i:Nat,i' = (i:Int):=⟨i'.toNat,by have:=HRZ.out.2; omega⟩
  have HL:=hid' (show m = vs.length/\n = gs.length/\(n = m + 1/\n<=4)/\i < n by
   have e0:=HL0.out
   have e3:=fits_len' HOA.out.2.2.2
   have:=HRZ.out.2
   exact ⟨e0.1,e0.2,by omega,by omega⟩)
  have q0:=HK.out.2.1.c0
  have q1:=HK.out.2.1.c1
  have q2:=HK.out.2.1.c2
  have q3:=HK.out.2.1.c3
  go_wp2_with fail
  refine (HLN.out HL.out.2.2.1 (fun j hj => HOT.out.1 j (by have:=HL.out; omega)) (fun j hj => HOT.out.2 j (by have:=HL.out; omega)) i _ HL.out.2.2.2 (HS.out.1.kept HK.out.1) (HS.out.2.kept HK.out.1)).mono ?_
  rintro e w3 ⟨hk3,ug,uc,C,rfl,tf,th,hC,_⟩
  obtain ⟨f0,f1,f2,f3,f4,f5,f6,f7,rfl⟩:=tf.shape
  obtain ⟨h0,h1,h2,h3,h4,h5,h6,h7,rfl⟩:=th.shape
  have HT:=hid' (And.intro tf (And.intro th hC))
  have HK:=hid' (And.intro (HK.out.1.trans hk3) (And.intro (HK.out.2.1.kept hk3) (And.intro (HK.out.2.2.1.kept hk3) (HK.out.2.2.2.kept hk3))))
  clear hk3 q0 q1 q2 q3 tf th hC HLN
  go_upto_region 5 with fail
  have hF1:=(F.FRow.alloc w3 (.bool f0) (.slice f1 f2 f3) (.bool f4) (.slice f5 f6 f7)).kept ((Kept.refl (w3.alloc (.cells #[.bool f0,.slice f1 f2 f3,.bool f4,.slice f5 f6 f7] 73))).alloc (.cells #[.bool h0,.slice h1 h2 h3,.bool h4,.slice h5 h6 h7] 73))
  have hE1:=F.FRow.alloc (w3.alloc (.cells #[.bool f0,.slice f1 f2 f3,.bool f4,.slice f5 f6 f7] 73)) (.bool h0) (.slice h1 h2 h3) (.bool h4) (.slice h5 h6 h7)
  have kA:=(((Kept.refl w3).alloc (.cells #[.bool f0,.slice f1 f2 f3,.bool f4,.slice f5 f6 f7] 73)).alloc (.cells #[.bool h0,.slice h1 h2 h3,.bool h4,.slice h5 h6 h7] 73))
  simp only [World.size_alloc] at hE1
  generalize (w3.alloc (.cells #[.bool f0,.slice f1 f2 f3,.bool f4,.slice f5 f6 f7] 73)).alloc (.cells #[.bool h0,.slice h1 h2 h3,.bool h4,.slice h5 h6 h7] 73) = W3 at hF1 hE1 kA ⊢
  obtain ⟨pe,hqpe⟩:∃ q,q = w3.heap.size + 1:=⟨_,rfl⟩
  rw [<- hqpe] at hE1 ⊢
  obtain ⟨pf,hqpf⟩:∃ q,q = w3.heap.size:=⟨_,rfl⟩
  rw [<- hqpf] at hF1 ⊢
  have HT:=hid' (And.intro (HT.out.1.kept kA) (And.intro (HT.out.2.1.kept kA) (And.intro HT.out.2.2 (And.intro hF1 hE1))))
  have HNE:=hid' (show z2 ≠ z1/\z1 ≠ z2/\pf ≠ z1/\pe ≠ z1/\pf ≠ z2/\pe ≠ z2 by
   have a:=HK.out.2.2.1.lt
   have b:=HK.out.2.2.2.lt
   have:=HZZ.out
   omega)
  have HK:=hid' (And.intro (HK.out.1.trans kA) (And.intro (HK.out.2.1.kept kA) (And.intro (HK.out.2.2.1.kept kA) (HK.out.2.2.2.kept kA))))
  clear hqpf hqpe hF1 hE1 kA
  have KR:Kept W3 W3.drew:=(Kept.refl _).drew
  have KK:=HK.out.1.trans KR
  have fr:=HT.out.2.2.2.1.kept KR
  have er:=HT.out.2.2.2.2.kept KR
  have z1r:=HK.out.2.2.1.kept KR
  have z2r:=HK.out.2.2.2.kept KR
  have tf:=HT.out.1.kept KR
  have th:=HT.out.2.1.kept KR
  have sS:=hid' (fun (V:World) (fr:F.FRow V pf (.bool f0) (.slice f1 f2 f3) (.bool f4) (.slice f5 f6 f7)) (er:F.FRow V pe (.bool h0) (.slice h1 h2 h3) (.bool h4) (.slice h5 h6 h7)) => (show V.cell? ⟨pf,0,none⟩ = some (.bool f0)/\V.cell? ⟨pf,1,none⟩ = some (.slice f1 f2 f3)/\V.cell? ⟨pf,2,none⟩ = some (.bool f4)/\V.cell? ⟨pf,3,none⟩ = some (.slice f5 f6 f7)/\V.cell? ⟨pe,0,none⟩ = some (.bool h0)/\V.cell? ⟨pe,1,none⟩ = some (.slice h1 h2 h3)/\V.cell? ⟨pe,2,none⟩ = some (.bool h4)/\V.cell? ⟨pe,3,none⟩ = some (.slice h5 h6 h7) from ⟨fr.c0,fr.c1,fr.c2,fr.c3,er.c0,er.c1,er.c2,er.c3⟩))
  refine wp_region_held_drew (S:=fun w' => w'.cell? ⟨pf,0,none⟩ = some (.bool f0)/\w'.cell? ⟨pf,1,none⟩ = some (.slice f1 f2 f3)/\w'.cell? ⟨pf,2,none⟩ = some (.bool f4)/\w'.cell? ⟨pf,3,none⟩ = some (.slice f5 f6 f7)/\w'.cell? ⟨pe,0,none⟩ = some (.bool h0)/\w'.cell? ⟨pe,1,none⟩ = some (.slice h1 h2 h3)/\w'.cell? ⟨pe,2,none⟩ = some (.bool h4)/\w'.cell? ⟨pe,3,none⟩ = some (.slice h5 h6 h7)) (by kernel_rfl) (sS.out _ fr er) (fun hHeld => ?_)
  generalize W3.drew = Wd at KK fr er z1r z2r tf th hHeld ⊢
  clear KR
  refine tk 0 hHeld ?_
  refine tk 2 hHeld ?_
  refine rdy 1 fun K hK => ?_
  go_simp
  refine (give_rt _ tf).mono ?_
  rintro e w4 ⟨hk4,ua,rfl,tg⟩
  obtain ⟨a0,a1,a2,a3,a4,a5,a6,rfl⟩:=tg.shape
  have tg:=RT.mono tg (Nat.zero_le _)
  have KK:=KK.trans hk4
  have fr:=fr.kept hk4
  have er:=er.kept hk4
  have z1r:=z1r.kept hk4
  have z2r:=z2r.kept hk4
  have th:=th.kept hk4
  refine hK.out _ _ (sS.out _ fr er) (fun hHeld => ?_)
  clear hK K hk4 tf
  refine rdy 3 fun K hK => ?_
  go_simp
  refine (give_rt _ th).mono ?_
  rintro e w5 ⟨hk5,ub,rfl,tc⟩
  obtain ⟨b0,b1,b2,b3,b4,b5,b6,rfl⟩:=tc.shape
  have tc:=RT.mono tc (Nat.zero_le _)
  have KK:=KK.trans hk5
  have fr:=fr.kept hk5
  have er:=er.kept hk5
  have z1r:=z1r.kept hk5
  have z2r:=z2r.kept hk5
  have tg:=tg.kept hk5
  refine hK.out _ _ (sS.out _ fr er) (fun hHeld => ?_)
  clear hK K hk5 th
  have f0:=z1r.c0
  have f1:=z1r.c1
  have f2:=z1r.c2
  have f3:=z1r.c3
  have fz:=z1r.fz
  refine rdy 4 fun K hK => ?_
  go_simp
  have z1s:=F.RRow.set z1r (.bool a0) (.slice a1 a3 a4) (.bool false) (.slice a2 a5 a6)
  have z2r:=F.RRow.far z2r HNE.out.1 (.bool a0) (.slice a1 a3 a4) (.bool false) (.slice a2 a5 a6)
  have fr:=frow_far fr HNE.out.2.2.1 (.bool a0) (.slice a1 a3 a4) (.bool false) (.slice a2 a5 a6)
  have er:=frow_far er HNE.out.2.2.2.1 (.bool a0) (.slice a1 a3 a4) (.bool false) (.slice a2 a5 a6)
  have tg:=RT.set4 tg z1r (.bool a0) (.slice a1 a3 a4) (.bool false) (.slice a2 a5 a6)
  have tc:=RT.set4 tc z1r (.bool a0) (.slice a1 a3 a4) (.bool false) (.slice a2 a5 a6)
  have KK:=kept_set4 KK HPz1.out (.bool a0) (.slice a1 a3 a4) (.bool false) (.slice a2 a5 a6)
  unfold F.put4 at fr er
  refine hK.out _ _ (sS.out _ fr er) (fun hHeld => ?_)
  clear hK K f0 f1 f2 f3 fz z1r
  generalize (((w5.setCell ⟨z1,0,none⟩ (.bool a0)).setCell ⟨z1,1,none⟩ (.slice a1 a3 a4)).setCell ⟨z1,2,none⟩ (.bool false)).setCell ⟨z1,3,none⟩ (.slice a2 a5 a6) = w6 at z1s z2r fr er tg tc KK hHeld ⊢
  have f0:=z2r.c0
  have f1:=z2r.c1
  have f2:=z2r.c2
  have f3:=z2r.c3
  have fz:=z2r.fz
  refine rdy 5 fun K hK => ?_
  go_simp
  have z2s:=F.RRow.set z2r (.bool b0) (.slice b1 b3 b4) (.bool false) (.slice b2 b5 b6)
  have z1s:=F.RRow.far z1s HNE.out.2.1 (.bool b0) (.slice b1 b3 b4) (.bool false) (.slice b2 b5 b6)
  have fr:=frow_far fr HNE.out.2.2.2.2.1 (.bool b0) (.slice b1 b3 b4) (.bool false) (.slice b2 b5 b6)
  have er:=frow_far er HNE.out.2.2.2.2.2 (.bool b0) (.slice b1 b3 b4) (.bool false) (.slice b2 b5 b6)
  have tg:=RT.set4 tg z2r (.bool b0) (.slice b1 b3 b4) (.bool false) (.slice b2 b5 b6)
  have tc:=RT.set4 tc z2r (.bool b0) (.slice b1 b3 b4) (.bool false) (.slice b2 b5 b6)
  have KK:=kept_set4 KK HPz2.out (.bool b0) (.slice b1 b3 b4) (.bool false) (.slice b2 b5 b6)
  unfold F.put4 at fr er
  refine hK.out _ _ (sS.out _ fr er) (fun hHeld => ?_)
  clear hK K f0 f1 f2 f3 fz z2r
  generalize (((w6.setCell ⟨z2,0,none⟩ (.bool b0)).setCell ⟨z2,1,none⟩ (.slice b1 b3 b4)).setCell ⟨z2,2,none⟩ (.bool false)).setCell ⟨z2,3,none⟩ (.slice b2 b5 b6) = w7 at z2s z1s fr er tg tc KK hHeld ⊢
  refine tk 6 hHeld ?_
  refine dn ?_
  have f0:=z1s.c0
  have f1:=z1s.c1
  have f2:=z1s.c2
  have f3:=z1s.c3
  have g0:=z2s.c0
  have g1:=z2s.c1
  have g2:=z2s.c2
  have g3:=z2s.c3
  have tc:=RT.scale tc (10 ^ 18)
  rw [show (10 ^ 18 * 10 ^ 18 * 10 ^ 18:Nat) = 10 ^ 54 by decide,show ((10 ^ 18:Nat):Int) = 10 ^ 18 by decide,HT.out.2.2.1] at tc
  clear fr er sS hHeld
  go_wp2_with fail
  exact bodyPost_ret (v:=.tuple #[(.agg #[.bool a0,.slice a1 a3 a4,.bool false,.slice a2 a5 a6]),(.agg #[.bool b0,.slice b1 b3 b4,.bool false,.slice b2 b5 b6]),.int .i64 0]) (by simp [results,Tryz.results10,go_sem,f0,f1,f2,f3,g0,g1,g2,g3]) rfl ⟨KK,.inr ⟨rfl,_,_,rfl,by rw [Int.toNat_natCast]; exact tg,by rw [Int.toNat_natCast]; exact tc⟩⟩
 ·
  have r4:=HK.out.2.2.1
  have r5:=HK.out.2.2.2
  have f0:=r4.c0
  have f1:=r4.c1
  have f2:=r4.c2
  have f3:=r4.c3
  have fz:=r4.fz
  have g0:=r5.c0
  have g1:=r5.c1
  have g2:=r5.c2
  have g3:=r5.c3
  have gz:=r5.fz
  clear r4 r5
  have HZ:=HZZ.out
  go_wp2_with fail
  exact bodyPost_ret (v:=.tuple #[.agg #[.bool false,.slice none 0 0,.bool false,.slice none 0 0],.agg #[.bool false,.slice none 0 0,.bool false,.slice none 0 0],.int .i64 rf]) (by simp [results,Tryz.results10,go_sem,f0,f1,f2,f3,g0,g1,g2,g3]) rfl ⟨kept_set4 (kept_set4 HK.out.1 HPz1.out _ _ _ _) HPz2.out _ _ _ _,.inl ⟨hr0,rfl⟩⟩
open Q (hid' Row3 Row2 okN)
section
variable {P:Program} {ops:Array Oper} {Q:Exit->Act->World->Prop} {md:Region.Mode} {S:World->Prop} {z:Nat}
def anyZ (P:Program) (md:Region.Mode) (ops:Array Oper) (Q:Exit->Act->World->Prop) (S:World->Prop) (z:Nat):Nat->Array Bool->Act->World->Prop
 | 0,ls,a,w => Region.ready md ops ls = []/\Q .normal a w
 | f + 1,ls,a,w => (Region.ready md ops ls = []->Q .normal a w)/\∀ i ∈ Region.ready md ops ls,wpOp P ops Q i (fun a' w' => (i ≠ z->S w')/\anyZ P md ops Q S z f (ls.setIfInBounds i true) a' w') a w
theorem any_of_z:∀ (f:Nat) (ls:Array Bool) (a:Act) (w:World),anyZ P md ops Q S z f ls a w->wpAny P md ops Q f ls a w
 | 0,_,_,_,h => h
 | f + 1,_,_,_,h => ⟨h.1,fun i hi => wpOp_mono (fun a' w' h' => any_of_z f _ a' w' h'.2) (h.2 i hi)⟩
def zwait (md:Region.Mode) (ops:Array Oper) (z i:Nat):Bool :=
 match ops[z]? with
 | some o => o.after.any (fun e => Region.binds md e && e.on == i)
 | none => false
theorem not_listed {i:Nat} {ls:Array Bool} (h:ls.getD i true = false):ls.getD i false = false:=by
 rcases Nat.lt_or_ge i ls.size with h' | h'
 ·
  simp [h'] at h ⊢; exact h
 ·
  simp [Array.getElem?_eq_none h'] at h
theorem zwait_not {i:Nat} {ls:Array Bool} (h:zwait md ops z i = true) (hun:ls.getD i true = false):¬ z ∈ Region.ready md ops ls:=by
 intro hz
 obtain ⟨_,o,ho,hall⟩:=mem_ready.1 hz
 simp only [zwait,ho] at h
 obtain ⟨e,he,hb⟩:=Array.any_eq_true'.1 h
 simp only [Bool.and_eq_true,beq_iff_eq] at hb
 have:=hall e he hb.1
 rw [hb.2,not_listed hun] at this
 cases this
theorem anyZ_first {i:Nat} {oi:Oper} {v:Value} (hi:ops[i]? = some oi) (hs:Region.noSelect ops = true) (hw:zwait md ops z i = true)
  (hQ:∀ c a w,Q (.panic c) (a.put oi.dst v) w->Q (.panic c) a w):∀ (f:Nat) (ls:Array Bool) (a:Act) (w:World),
   (∀ j oj,ops[j]? = some oj->j ≠ i->ls.getD j true = false->(∀ e ∈ oj.after,Region.binds md e = true->e.on ≠ i)->oi.apart ops oj = true) ->
   i ∈ Region.ready md ops ls->YieldsIf P ops S oi v a->S w ->
   anyZ P md ops Q S z f (ls.setIfInBounds i true) (a.put oi.dst v) w->anyZ P md ops Q S z (f + 1) ls a w:=by
 intro f
 induction f with
 | zero =>
  intro ls a w _ hr hy hS H
  refine ⟨fun h => absurd hr (by rw [h]; simp),fun j hj => ?_⟩
  by_cases hji:j = i
  ·
   subst hji
   exact hy.wpOp hi hS ⟨fun _ => hS,H⟩
  ·
   exact absurd (ready_mono hj hji) (by rw [H.1]; simp)
 | succ f ih =>
  intro ls a w hfree hr hy hS H
  have hun:=(mem_ready.1 hr).1
  refine ⟨fun h => absurd hr (by rw [h]; simp),fun j hj => ?_⟩
  by_cases hji:j = i
  ·
   subst hji
   exact hy.wpOp hi hS ⟨fun _ => hS,H⟩
  have hjz:j ≠ z:=fun e => zwait_not hw hun (e ▸ hj)
  obtain ⟨hjun,oj,hoj,hall⟩:=mem_ready.1 hj
  have hap:=hfree j oj hoj hji hjun (fun e he hb heq => by
   have h1:=hall e he hb
   rw [heq,not_listed hun] at h1
   cases h1)
  refine wpOp_mono (fun a' w' h3 => ⟨fun _ => h3.2.1 hjz,ih _ a' w' (fun k ok hk hki hku hno => hfree k ok hk hki ?_ hno) (ready_mono hr (Ne.symm hji)) h3.1 (h3.2.1 hjz) ?_⟩) (wpOp_putIf hoj hap (fun cs b => Region.noSelect_spec hs i oi cs b hi) (fun cs b => Region.noSelect_spec hs j oj cs b hoj) hQ hy (H.2 j (ready_mono hj hji)))
  ·
   by_cases hjk:j = k
   ·
    subst hjk; exact hjun
   ·
    rw [getD_set_ne true hjk] at hku; exact hku
  ·
   rw [Array.setIfInBounds_comm _ _ hji]
   exact h3.2.2
theorem anyZ_take {i:Nat} {oi:Oper} {v:Value} {f:Nat} {ls:Array Bool} {a:Act} {w:World} (hi:ops[i]? = some oi)
  (hs:Region.noSelect ops = true) (hf:Region.free md ops ls i = true) (hr:(Region.ready md ops ls).contains i = true) (hw:zwait md ops z i = true)
  (hQ:∀ c a w,Q (.panic c) (a.put oi.dst v) w->Q (.panic c) a w) (hy:YieldsIf P ops S oi v a) (hS:S w)
  (h:anyZ P md ops Q S z f (ls.setIfInBounds i true) (a.put oi.dst v) w):anyZ P md ops Q S z (f + 1) ls a w :=
 anyZ_first hi hs hw hQ f ls a w (Region.free_spec hi hf) (by simpa using hr) hy hS h
def AllZ (P:Program) (md:Region.Mode) (ops:Array Oper) (Q:Exit->Act->World->Prop) (S:World->Prop) (z f:Nat) (ls:Array Bool) (a:Act) (w:World) (rs:List Nat):Prop :=
 ∀ i ∈ rs,wpOp P ops Q i (fun a' w' => (i ≠ z->S w')/\anyZ P md ops Q S z f (ls.setIfInBounds i true) a' w') a w
theorem AllZ.nil {f:Nat} {ls:Array Bool} {a:Act} {w:World}:AllZ P md ops Q S z f ls a w []:=fun _ h => by cases h
theorem AllZ.cons {f:Nat} {ls:Array Bool} {a:Act} {w:World} {i:Nat} {o:Oper} {rs:List Nat} (ho:ops[i]? = some o)
  (h:∀ K':Act->World->Prop,Shut (∀ a w,S w->(S w->anyZ P md ops Q S z f (ls.setIfInBounds i true) a w)->K' a w)->if Region.wanted o (yielded ops a.tmps) = true then Oper.wp P o a w K' Q else K' (a.put o.dst undef) w)
  (hs:AllZ P md ops Q S z f ls a w rs):AllZ P md ops Q S z f ls a w (i :: rs):=fun j hj => by
 rcases List.mem_cons.1 hj with rfl | hj
 ·
  exact wpOp_step ho (fun K' hK => h K' (fun a w hS hW => hK a w ⟨fun _ => hS,hW hS⟩))
 ·
  exact hs j hj
theorem AllZ.last {f:Nat} {ls:Array Bool} {a:Act} {w:World} {o:Oper} (ho:ops[z]? = some o)
  (h:∀ K':Act->World->Prop,Shut (∀ a w,anyZ P md ops Q S z f (ls.setIfInBounds z true) a w->K' a w)->if Region.wanted o (yielded ops a.tmps) = true then Oper.wp P o a w K' Q else K' (a.put o.dst undef) w) :
  AllZ P md ops Q S z f ls a w [z]:=fun j hj => by
 rw [List.mem_singleton] at hj
 subst hj
 exact wpOp_step ho (fun K' hK => h K' (fun a w hW => hK a w ⟨fun e => absurd rfl e,hW⟩))
theorem anyZ_ready {rs:List Nat} {f:Nat} {ls:Array Bool} {a:Act} {w:World} (hr:Region.ready md ops ls = rs) (hne:rs ≠ []) (h:AllZ P md ops Q S z f ls a w rs):anyZ P md ops Q S z (f + 1) ls a w :=
 ⟨fun h0 => absurd (hr ▸ h0) hne,hr ▸ h⟩
theorem anyZ_done {ls:Array Bool} {a:Act} {w:World} (hr:Region.ready md ops ls = []) (h:Q .normal a w):∀ f,anyZ P md ops Q S z f ls a w
 | 0 => ⟨hr,h⟩
 | _ + 1 => ⟨fun _ => h,by rw [hr]; simp⟩
theorem region_z (z:Nat) {id:Nat} {a:Act} {w:World} (hm:P.follows .mixedOrders = true) (hS:S w.drew)
  (h:S w.drew->anyZ P .any ops Q S z ops.size (Array.replicate ops.size false) a w.drew):(Code.region id ops true).wp P Q a w :=
 wp_region_any hm (any_of_z _ _ _ _ (h hS))
theorem step_src {w:World} {o:Oper} {a:Act} {K:Act->World->Prop} {E:Prop} (hgd:o.guard = none) (s x:Operand) (t:TypeId)
  (ho:o.op = .call { callee:=.builtin .append,args:=#[s,x],argTypes:=#[t,t] })
  (base:Nat) (e:TypeId) (i:TypeInfo) (zv:Value) (size bytes:Nat) (ht:P.underlying t = some (.slice e)) (hi:P.info? e = some i) (hz:i.zero = some zv)
  (hsize:i.size = size) (hby:i.bytes = bytes) (hzs:zv.cells.size = size) (hsz:0 < size)
  (g0:Nat) (hs:a.eval s = .slice (some ⟨g0,0,none⟩) 0 0) (hown:w.ownsRow base e size (.slice (some ⟨g0,0,none⟩) 0 0) 0 [])
  (ao:Option Addr) (m c:Nat) (news:List Value) (hx:a.eval x = .slice ao m c) (hl:news.length = m * size) (hnews:0 < m->∃ ad,ao = some ad/\∀ j u,news[j]? = some u->w.cell? (ad.add j) = some u) (h1:∀ u ∈ news,u.oneCell' = true)
  (h63:m<=maxLen) (hbytes:m * bytes<=140737488355328) (hbase:base<=w.heap.size)
  (h:∀ g cap w',w'.ownsRow base e size (.slice (some ⟨g,0,none⟩) m cap) m news->w.grownBy w' (some g0)->K (a.put o.dst (.slice (some ⟨g,0,none⟩) m cap)) w') :
  if Region.wanted o (yielded ops a.tmps) = true then Oper.wp P o a w K Q else E:=by
 by_cases hm:0 < m
 ·
  obtain ⟨ad,rfl,hn⟩:=hnews hm
  exact step_append_lies w hgd s x t ho base e i zv size bytes ht hi hz hsize hby hzs hsz _ 0 [] hs hown ad m c news hx hl hn h1 hm (by omega) (by rw [Nat.zero_add]; exact hbytes) hbase _ rfl (fun g cap w' h2 h3 _ _ => by
   have:=h g cap w' (by simpa using h2) h3
   rw [Nat.zero_add]
   exact this)
 ·
  obtain rfl:m = 0:=by omega
  have hn0:news = []:=List.eq_nil_of_length_eq_zero (by simpa using hl)
  subst hn0
  have hr:(Builtin.append_ #[t,t] o.type #[.slice (some ⟨g0,0,none⟩) 0 0,.slice ao 0 c]).run P w = .ok (.slice (some ⟨g0,0,none⟩) 0 0) w:=by
   cases ao <;> simp [Builtin.append_,run_underlying ht,sizeOf,typeInfo,hi,Builtin.lenOf,Builtin.firstCells,loadCells,loadCellsFrom,storeCells]
  have hw:Region.wanted o (yielded ops a.tmps) = true:=by simp [Region.wanted,hgd]
  rw [if_pos hw]
  unfold Oper.wp execOp
  simp only [ho,resolve,invoke,builtin,Sem.run_bind,Sem.run_pure,Result.andThen_ok,List.map_toArray,List.map_cons,List.map_nil,hs,hx,hr]
  exact h g0 0 w hown ⟨rfl,rfl,rfl,Nat.le_refl _,fun _ _ _ => rfl⟩
end
theorem own_nil (t:TypeId) (sz:Nat) (w:World) (B:Nat) (hB:B<=w.heap.size):(w.alloc (Obj.cells #[] t)).ownsRow B t sz (.slice (some ⟨w.heap.size,0,none⟩) 0 0) 0 []:=by
 refine ⟨by simp,.inr ⟨w.heap.size,0,#[],rfl,hB,?_,Nat.le_refl _,by unfold maxLen; omega,by simp,by simp⟩⟩
 show (w.heap.push _)[w.heap.size]? = _
 simp
theorem row_of_owns {w:World} {B:Nat} {t:TypeId} {sz g n cap:Nat} {xs:List Value} (h:w.ownsRow B t sz (.slice (some ⟨g,0,none⟩) n cap) n xs) :
  B<=g/\n<=cap/\∃ f:Nat->Value,w.rowIs g t (cap * sz) f/\∀ i v,xs[i]? = some v->f i = v:=by
 obtain ⟨h1,⟨h2,_⟩ | ⟨g',cap',cur,he,hB,hg,hn,_,hs,ht⟩⟩:=h
 ·
  cases h2
 ·
  simp only [Value.slice.injEq,Option.some.injEq,Addr.mk.injEq,and_true] at he
  obtain ⟨rfl,_,rfl⟩:=he
  refine ⟨hB,hn,fun j => (cur[j]?).getD undef,⟨cur,hg,hs,fun i hi => ?_⟩,fun i v hv => ?_⟩
  ·
   have hi':i < cur.size:=by omega
   simp [hi']
  ·
   have hl:=(List.getElem?_eq_some_iff.1 hv).1
   rw [<- ht,List.getElem?_take_of_lt (by omega),Array.getElem?_toList] at hv
   show (cur[i]?).getD undef = _
   rw [hv]; rfl
theorem kept_grown {W w w':World} {g:Nat} (k:Kept W w) (hg:w.grownBy w' (some g)) (h:W.heap.size<=g):Kept W w' :=
 Below.grown k hg k.size (fun j hj => by simp only [Option.some.injEq] at hj; omega)
open Q (hid' Row3 Row2 okN)
theorem addB (a:Addr) (n:Nat):(a.add n).block = a.block:=by unfold Addr.add; split <;> rfl
theorem info_num:(Tryz.prog.info? 48).map (fun i => (i.zero,i.size,i.bytes)) = some (some (.agg #[.int .i64 0,.int .i64 0]),2,16):=by kernel_rfl
theorem und_nums:Tryz.prog.underlying 22 = some (.slice 48):=by kernel_rfl
def nums (vs:List (Int × Int)):List Value:=vs.flatMap fun p => [.int .i64 p.1,.int .i64 p.2]
theorem nums_len (vs:List (Int × Int)):(nums vs).length = vs.length * 2:=by
 induction vs with
 | nil => rfl
 | cons p vs ih => simp only [nums,List.flatMap_cons,List.length_append,List.length_cons,List.length_nil] at ih ⊢; omega
theorem nums_one (vs:List (Int × Int)):∀ u ∈ nums vs,u.oneCell' = true:=by
 intro u hu
 simp only [nums,List.mem_flatMap] at hu
 obtain ⟨p,_,hp⟩:=hu
 simp at hp
 rcases hp with rfl | rfl <;> rfl
theorem nums_get (vs:List (Int × Int)):∀ j,j < vs.length->(nums vs)[j * 2]? = some (.int .i64 (vs.getD j (0,0)).1)/\(nums vs)[j * 2 + 1]? = some (.int .i64 (vs.getD j (0,0)).2):=by
 induction vs with
 | nil => intro j hj; cases hj
 | cons p vs ih =>
  intro j hj
  cases j with
  | zero => exact ⟨rfl,rfl⟩
  | succ j =>
   have:=ih j (by simpa using hj)
   rw [show (j + 1) * 2 = j * 2 + 1 + 1 by omega]
   exact this
theorem NSl.src {w:World} {ao:Option Addr} {n c:Nat} {vs:List (Int × Int)} (h:NSl w (.slice ao n c) vs):n = vs.length/\(0 < n->∃ ad:Addr,ao = some ad/\ad.block < w.heap.size/\∀ j u,(nums vs)[j]? = some u->w.cell? (ad.add j) = some u):=by
 obtain ⟨ao',cap,he,hx⟩:=h
 simp only [Value.slice.injEq] at he
 obtain ⟨rfl,rfl,rfl⟩:=he
 refine ⟨rfl,fun h0 => ?_⟩
 obtain ⟨b,off,rfl,hb,hc⟩:=hx h0
 refine ⟨_,rfl,hb,fun j u hu => ?_⟩
 have hj:=(List.getElem?_eq_some_iff.1 hu).1
 rw [nums_len] at hj
 rw [Addr.add_lit]
 have hd:j / 2 < vs.length:=by omega
 have hg:=nums_get vs (j / 2) hd
 rcases Nat.mod_two_eq_zero_or_one j with e | e
 ·
  have hjj:j / 2 * 2 = j:=by omega
  rw [hjj] at hg
  have h2:=(hc (j / 2) hd).1
  rw [hjj] at h2
  rw [h2,<- hg.1,hu]
 ·
  have hjj:j / 2 * 2 + 1 = j:=by omega
  rw [hjj] at hg
  have h2:=(hc (j / 2) hd).2
  rw [Nat.add_assoc,hjj] at h2
  rw [h2,<- hg.2,hu]
theorem mark2 (t:TypeId) (w:World) (x y:Value):∀ j u,([x,y]:List Value)[j]? = some u->(w.alloc (.cells #[x,y] t)).cell? ((⟨w.heap.size,0,none⟩:Addr).add j) = some u:=by
 intro j u hj
 match j,hj with
 | 0,hj => simp at hj; subst hj; simp [Addr.add]
 | 1,hj => simp at hj; subst hj; simp [Addr.add]
theorem marks_kept {w w':World} {b:Nat} {l:List Value} (h:∀ j u,l[j]? = some u->w.cell? ((⟨b,0,none⟩:Addr).add j) = some u) (k:w'.heap[b]? = w.heap[b]?):∀ j u,l[j]? = some u->w'.cell? ((⟨b,0,none⟩:Addr).add j) = some u :=
 fun j u hu => (World.cell?_of_block (a:=(⟨b,0,none⟩:Addr).add j) (by rw [addB]; exact k)).trans (h j u hu)
theorem heap_alloc_lt' (w:World) (o:Obj) (b:Nat) (h:b < w.heap.size):(w.alloc o).heap[b]? = w.heap[b]?:=by
 show (w.heap.push _)[b]? = _
 rw [Array.getElem?_push_lt h]; simp [h]
structure Half (w W wc:World) (p q:Nat) (s:ByteArray) (k:Int) (x1 x2:Value) (g:Nat) (t:TypeId) (sz n cap:Nat) (xs:List Value) (f:Nat->Value):Prop where
 kp:Kept w wc
 szw:W.heap.size<=wc.heap.size
 oth:∀ b,b < W.heap.size->¬ b = p->wc.heap[b]? = W.heap[b]?
 rp:Row4 24 wc p (.string s) (.int .u8 k) x1 x2
 rq:Row4 24 wc q (.string ⟨#[]⟩) (.int .u8 0) (.slice none 0 0) (.slice none 0 0)
 gb:W.heap.size<=g
 gc:n + 1<=cap
 r:wc.rowIs g t (cap * sz) f
 v:∀ i u,xs[i]? = some u->f i = u
theorem Row4.fz {t:TypeId} {w:World} {p:Nat} {x0 x1 x2 x3:Value} (h:Row4 t w p x0 x1 x2 x3) (o:Nat):w.frozen? ⟨p,o,none⟩ = false:=World.rowIs.frozen h o
theorem half_of2 {w W V:World} {p q:Nat} {s:ByteArray} {k:Int} {x1 x2:Value} {g:Nat} {t:TypeId} {sz n cap:Nat} {xs:List Value} {f:Nat->Value}
  (h:Kept w W/\w.heap.size<=p/\p < W.heap.size/\¬ q = p/\Row4 24 W q (.string ⟨#[]⟩) (.int .u8 0) (.slice none 0 0) (.slice none 0 0)) (hp:Row4 24 V p (.string s) (.int .u8 k) x1 x2) (K:Kept W V) (gb:W.heap.size<=g) (gc:n + 1<=cap) (gr:V.rowIs g t (cap * sz) f) (gv:∀ i u,xs[i]? = some u->f i = u) :
  Half w W (V.setCell ⟨p,2,none⟩ (.slice (some ⟨g,0,none⟩) n cap)) p q s k (.slice (some ⟨g,0,none⟩) n cap) x2 g t sz n cap xs f :=
 ⟨(h.1.trans K).setCell (p:=⟨p,2,none⟩) h.2.1 _,by simpa using K.size,fun b hb hne => (Deep.blk_setCell_other _ _ _ _ hne).trans (K.block b hb),(World.rowIs.set hp 2 _).congr (fun i hi => by
  rcases (show i = 0 ∨ i = 1 ∨ i = 2 ∨ i = 3 by omega) with rfl | rfl | rfl | rfl <;> rfl),World.rowIs.setOther (h.2.2.2.2.kept K) h.2.2.2.1 _,gb,gc,World.rowIs.setOther gr (show ¬ g = p by have:=h.2.2.1; omega) _,gv⟩
theorem half_of3 {w W V:World} {p q:Nat} {s:ByteArray} {k:Int} {x1 x2:Value} {g:Nat} {t:TypeId} {sz n cap:Nat} {xs:List Value} {f:Nat->Value}
  (h:Kept w W/\w.heap.size<=p/\p < W.heap.size/\¬ q = p/\Row4 24 W q (.string ⟨#[]⟩) (.int .u8 0) (.slice none 0 0) (.slice none 0 0)) (hp:Row4 24 V p (.string s) (.int .u8 k) x1 x2) (K:Kept W V) (gb:W.heap.size<=g) (gc:n + 1<=cap) (gr:V.rowIs g t (cap * sz) f) (gv:∀ i u,xs[i]? = some u->f i = u) :
  Half w W (V.setCell ⟨p,3,none⟩ (.slice (some ⟨g,0,none⟩) n cap)) p q s k x1 (.slice (some ⟨g,0,none⟩) n cap) g t sz n cap xs f :=
 ⟨(h.1.trans K).setCell (p:=⟨p,3,none⟩) h.2.1 _,by simpa using K.size,fun b hb hne => (Deep.blk_setCell_other _ _ _ _ hne).trans (K.block b hb),(World.rowIs.set hp 3 _).congr (fun i hi => by
  rcases (show i = 0 ∨ i = 1 ∨ i = 2 ∨ i = 3 by omega) with rfl | rfl | rfl | rfl <;> rfl),World.rowIs.setOther (h.2.2.2.2.kept K) h.2.2.2.1 _,gb,gc,World.rowIs.setOther gr (show ¬ g = p by have:=h.2.2.1; omega) _,gv⟩
structure LentM (B:Nat) (w:World) (g1 cap1 g2 cap2 n m:Nat) (gs vs:List (Int × Int)) (f1 f2:Nat->Value):Prop where
 b1:B<=g1
 b2:B<=g2
 c1:n + 1<=cap1
 c2:m + 1<=cap2
 n1:n = gs.length
 n2:m = vs.length
 r1:w.rowIs g1 48 (cap1 * 2) f1
 r2:w.rowIs g2 48 (cap2 * 2) f2
 v1:∀ j,j < n->f1 (j * 2) = .int .i64 (gs.getD j (0,0)).1/\f1 (j * 2 + 1) = .int .i64 (gs.getD j (0,0)).2
 v2:∀ j,j < m->f2 (j * 2) = .int .i64 (vs.getD j (0,0)).1/\f2 (j * 2 + 1) = .int .i64 (vs.getD j (0,0)).2
 m1:f1 (n * 2) = .int .i64 77
 m2:f2 (m * 2) = .int .i64 78
theorem lent_nsl {w:World} {g cap n:Nat} {vs:List (Int × Int)} {f:Nat->Value} (hn:n = vs.length) (hc:n + 1<=cap) (r:w.rowIs g 48 (cap * 2) f) (v:∀ j,j < n->f (j * 2) = .int .i64 (vs.getD j (0,0)).1/\f (j * 2 + 1) = .int .i64 (vs.getD j (0,0)).2):NSl w (.slice (some ⟨g,0,none⟩) n cap) vs :=
 ⟨_,cap,by rw [hn],fun h0 => ⟨g,0,rfl,r.lt,fun j hj => by
  rw [Nat.zero_add]
  exact ⟨(r.cell (i:=j * 2) (by omega)).trans (by rw [(v j (by omega)).1]),(r.cell (i:=j * 2 + 1) (by omega)).trans (by rw [(v j (by omega)).2])⟩⟩⟩
theorem LentM.nsl1 {B:Nat} {w:World} {g1 cap1 g2 cap2 n m:Nat} {gs vs:List (Int × Int)} {f1 f2:Nat->Value} (h:LentM B w g1 cap1 g2 cap2 n m gs vs f1 f2):NSl w (.slice (some ⟨g1,0,none⟩) n cap1) gs:=lent_nsl h.n1 h.c1 h.r1 h.v1
theorem LentM.nsl2 {B:Nat} {w:World} {g1 cap1 g2 cap2 n m:Nat} {gs vs:List (Int × Int)} {f1 f2:Nat->Value} (h:LentM B w g1 cap1 g2 cap2 n m gs vs f1 f2):NSl w (.slice (some ⟨g2,0,none⟩) m cap2) vs:=lent_nsl h.n2 h.c2 h.r2 h.v2
theorem LentM.kept {B:Nat} {w w':World} {g1 cap1 g2 cap2 n m:Nat} {gs vs:List (Int × Int)} {f1 f2:Nat->Value} (h:LentM B w g1 cap1 g2 cap2 n m gs vs f1 f2) (k:Kept w w'):LentM B w' g1 cap1 g2 cap2 n m gs vs f1 f2 :=
 ⟨h.b1,h.b2,h.c1,h.c2,h.n1,h.n2,h.r1.of_block (k.block g1 h.r1.lt),h.r2.of_block (k.block g2 h.r2.lt),h.v1,h.v2,h.m1,h.m2⟩
theorem lent_end {w wb wd:World} {p q:Nat} {s:ByteArray} {k:Int} {y1 y2:Value} {g1 cap1 g2 cap2 n m:Nat} {gs vs:List (Int × Int)} {f1 f2:Nat->Value} (hq:w.heap.size<=q) (hn:n = gs.length) (hm:m = vs.length)
  (hP:Row4 24 wb p (.string s) (.int .u8 k) (.slice (some ⟨g1,0,none⟩) n cap1) y2/\Kept w wb/\w.heap.size<=p/\p < wb.heap.size/\¬ q = p/\Row4 24 wb q (.string ⟨#[]⟩) (.int .u8 0) (.slice none 0 0) (.slice none 0 0))
  (hG:w.heap.size<=g1/\¬ g1 = q/\n + 1<=cap1/\wb.rowIs g1 48 (cap1 * 2) f1/\∀ i u,(nums gs ++ [.int .i64 77,.int .i64 0])[i]? = some u->f1 i = u) (hgp:¬ g1 = p)
  (h:Half w wb wd p q s k (.slice (some ⟨g1,0,none⟩) n cap1) y1 g2 48 2 m cap2 (nums vs ++ [.int .i64 78,.int .i64 0]) f2) (x0 x1 x2 x3:Value) :
  Kept w ((((wd.setCell ⟨q,0,none⟩ x0).setCell ⟨q,1,none⟩ x1).setCell ⟨q,2,none⟩ x2).setCell ⟨q,3,none⟩ x3)/\LentM w.heap.size ((((wd.setCell ⟨q,0,none⟩ x0).setCell ⟨q,1,none⟩ x1).setCell ⟨q,2,none⟩ x2).setCell ⟨q,3,none⟩ x3) g1 cap1 g2 cap2 n m gs vs f1 f2:=by
 have hqb:=hP.2.2.2.2.2.lt
 have g2b:=h.gb
 have hgb:=hG.2.2.2.1.lt
 have g2q:¬ g2 = q:=by omega
 have ks:=hP.2.1.size
 refine ⟨kept_set4 h.kp hq _ _ _ _,hG.1,by omega,hG.2.2.1,h.gc,hn,hm,?_,?_,?_,?_,?_,?_⟩
 ·
  exact (((((hG.2.2.2.1.of_block (h.oth g1 hgb hgp)).setOther hG.2.1 _).setOther hG.2.1 _).setOther hG.2.1 _).setOther hG.2.1 _)
 ·
  exact ((((h.r.setOther g2q _).setOther g2q _).setOther g2q _).setOther g2q _)
 ·
  intro j hj
  have hg:=nums_get gs j (by omega)
  have hl:=nums_len gs
  exact ⟨hG.2.2.2.2 _ _ (by rw [List.getElem?_append_left (by omega)]; exact hg.1),hG.2.2.2.2 _ _ (by rw [List.getElem?_append_left (by omega)]; exact hg.2)⟩
 ·
  intro j hj
  have hg:=nums_get vs j (by omega)
  have hl:=nums_len vs
  exact ⟨h.v _ _ (by rw [List.getElem?_append_left (by omega)]; exact hg.1),h.v _ _ (by rw [List.getElem?_append_left (by omega)]; exact hg.2)⟩
 ·
  have hl:=nums_len gs
  exact hG.2.2.2.2 _ _ (by rw [List.getElem?_append_right (by omega),hl,hn,Nat.sub_self]; rfl)
 ·
  have hl:=nums_len vs
  exact h.v _ _ (by rw [List.getElem?_append_right (by omega),hl,hm,Nat.sub_self]; rfl)
set_option maxRecDepth 100000 in
set_option maxHeartbeats 8000000 in
theorem lentM_any (s:ByteArray) (k:Int) (a1 a2:Option Addr) (n c m c':Nat) (gs vs:List (Int × Int)) (w:World) (h1:NSl w (.slice a1 n c) gs) (h2:NSl w (.slice a2 m c') vs) (hn:(n + 1) * 16<=140737488355328) (hm:(m + 1) * 16<=140737488355328) :
  Calls Tryz.prog 8 #[.agg #[.string s,.int .u8 k,.slice a1 n c,.slice a2 m c']] w fun e w' => Kept w w'/\∃ g1 cap1 g2 cap2 f1 f2,e = .returned (.agg #[.string s,.int .u8 k,.slice (some ⟨g1,0,none⟩) n cap1,.slice (some ⟨g2,0,none⟩) m cap2])/\LentM w.heap.size w' g1 cap1 g2 cap2 n m gs vs f1 f2:=by
 have HS:=hid' (And.intro h1 h2)
 clear h1 h2
 go_enter Tryz.func8,Tryz.ntmps8
 go_upto_region 1 with fail
 have hK:=((Kept.refl w).alloc (.cells #[.string s,.int .u8 k,.slice a1 n c,.slice a2 m c'] 24)).alloc (.cells #[.string ⟨#[]⟩,.int .u8 0,.slice none 0 0,.slice none 0 0] 24)
 have hR:=(Row4.alloc 24 w (.string s) (.int .u8 k) (.slice a1 n c) (.slice a2 m c')).kept ((Kept.refl _).alloc (.cells #[.string ⟨#[]⟩,.int .u8 0,.slice none 0 0,.slice none 0 0] 24))
 have hV:=Row4.alloc 24 (w.alloc (.cells #[.string s,.int .u8 k,.slice a1 n c,.slice a2 m c'] 24)) (.string ⟨#[]⟩) (.int .u8 0) (.slice none 0 0) (.slice none 0 0)
 rw [World.size_alloc] at hV
 have hqw:w.heap.size<=w.heap.size + 1:=Nat.le_succ _
 have hpq:¬ w.heap.size + 1 = w.heap.size:=by omega
 generalize (w.alloc (.cells #[.string s,.int .u8 k,.slice a1 n c,.slice a2 m c'] 24)).alloc (.cells #[.string ⟨#[]⟩,.int .u8 0,.slice none 0 0,.slice none 0 0] 24) = W0 at hK hR hV ⊢
 obtain ⟨q,hq⟩:∃ p,p = w.heap.size + 1:=⟨_,rfl⟩
 rw [<- hq] at hV hqw hpq ⊢
 obtain ⟨p,hp⟩:∃ p,w.heap.size = p:=⟨_,rfl⟩
 rw [hp] at hR hpq ⊢
 have hpw:w.heap.size<=p:=by omega
 have HP:=hid' (And.intro hR (And.intro hK (And.intro hpw (And.intro hR.lt (And.intro hpq hV)))))
 have HQ:=hid' hqw
 clear hp hq hK hR hV hpw hqw hpq
 have hln:(nums gs).length = n * 2:=by rw [nums_len,<- (NSl.src HS.out.1).1]
 have h63:n<=maxLen:=by unfold maxLen; omega
 have h63':n + 1<=maxLen:=by unfold maxLen; omega
 have hsrc:Hid (0 < n->∃ ad:Addr,a1 = some ad/\ad.block < W0.heap.size/\∀ j u,(nums gs)[j]? = some u->W0.cell? (ad.add j) = some u):=(NSl.src (HS.out.1.kept HP.out.2.1)).2
 go_cut [13] (fun s13 wc => ∃ g cap f,s13 = .slice (some ⟨g,0,none⟩) n cap/\Hid (Half w W0 wc p q s k (.slice (some ⟨g,0,none⟩) n cap) (.slice a2 m c') g 48 2 n cap (nums gs ++ [.int .i64 77,.int .i64 0]) f))
 case first =>
  obtain ⟨i0,hi,hz0,hz1,hz2⟩:=info_parts info_num
  have sS:=hid' (fun (V:World) (K:Kept W0 V) => And.intro ((HP.out.1.kept K).c1) ((HP.out.1.kept K).c2))
  have KT:Kept W0 W0.drew:=(Kept.refl _).drew
  refine region_z 12 (S:=fun w' => w'.cell? ⟨p,1,none⟩ = some (.int .u8 k)/\w'.cell? ⟨p,2,none⟩ = some (.slice a1 n c)) (by kernel_rfl) (sS.out _ KT) (fun hHeld => ?_)
  generalize W0.drew = Wd at KT hHeld ⊢
  refine anyZ_take (i:=1) (v:=?vxt1) rfl (by kernel_rfl) (by kernel_rfl) (by kernel_rfl) (by kernel_rfl) (fun _ _ _ h => h) (Or.inl ⟨by rfl,?yxt1⟩) hHeld ?rxt1
  case yxt1 =>
   intro w' hSw
   obtain ⟨hSw0,hSw1⟩:=hSw
   go_simp
   with_reducible rfl
  case rxt1 =>
  refine anyZ_take (i:=2) (v:=?vxt2) rfl (by kernel_rfl) (by kernel_rfl) (by kernel_rfl) (by kernel_rfl) (fun _ _ _ h => h) (Or.inl ⟨by rfl,?yxt2⟩) hHeld ?rxt2
  case yxt2 =>
   intro w' hSw
   obtain ⟨hSw0,hSw1⟩:=hSw
   go_simp
   with_reducible rfl
  case rxt2 =>
  refine anyZ_take (i:=4) (v:=?vxt4) rfl (by kernel_rfl) (by kernel_rfl) (by kernel_rfl) (by kernel_rfl) (fun _ _ _ h => h) (Or.inl ⟨by rfl,?yxt4⟩) hHeld ?rxt4
  case yxt4 =>
   intro w' hSw
   obtain ⟨hSw0,hSw1⟩:=hSw
   go_simp
   with_reducible rfl
  case rxt4 =>
  refine anyZ_take (i:=7) (v:=?vxt7) rfl (by kernel_rfl) (by kernel_rfl) (by kernel_rfl) (by kernel_rfl) (fun _ _ _ h => h) (Or.inl ⟨by rfl,?yxt7⟩) hHeld ?rxt7
  case yxt7 =>
   intro w' hSw
   obtain ⟨hSw0,hSw1⟩:=hSw
   go_simp
   with_reducible rfl
  case rxt7 =>
  refine anyZ_take (i:=8) (v:=?vxt8) rfl (by kernel_rfl) (by kernel_rfl) (by kernel_rfl) (by kernel_rfl) (fun _ _ _ h => h) (Or.inl ⟨by rfl,?yxt8⟩) hHeld ?rxt8
  case yxt8 =>
   intro w' hSw
   obtain ⟨hSw0,hSw1⟩:=hSw
   go_simp
   with_reducible rfl
  case rxt8 =>
  refine anyZ_take (i:=9) (v:=?vxt9) rfl (by kernel_rfl) (by kernel_rfl) (by kernel_rfl) (by kernel_rfl) (fun _ _ _ h => h) (Or.inl ⟨by rfl,?yxt9⟩) hHeld ?rxt9
  case yxt9 =>
   intro w' hSw
   obtain ⟨hSw0,hSw1⟩:=hSw
   go_simp
   with_reducible rfl
  case rxt9 =>
  refine anyZ_ready (rs:=[0,5]) (by kernel_rfl) (by simp) ?_
  refine AllZ.cons rfl (fun K hK => ?_) ?_
  ·
   skip
   go_simp
   refine hK.out _ _ (sS.out _ (KT.alloc _)) (fun hHeld => ?_)
   clear hK K
   have own:=own_nil 48 2 Wd W0.heap.size KT.size
   have g0b:W0.heap.size<=Wd.heap.size:=KT.size
   have g0l:Wd.heap.size < (Wd.alloc (.cells #[] 48)).heap.size:=by simp
   have KT:=KT.alloc (.cells #[] 48)
   obtain ⟨g0,hg0⟩:∃ g,g = Wd.heap.size:=⟨_,rfl⟩
   rw [<- hg0] at own g0b g0l ⊢
   generalize Wd.alloc (.cells #[] 48) = Wde at own KT hHeld g0l ⊢
   clear hg0
   refine anyZ_ready (rs:=[3,5]) (by kernel_rfl) (by simp) ?_
   refine AllZ.cons rfl (fun K hK => ?_) ?_
   ·
    skip
    refine step_src rfl (.tmp 3) (.tmp 5) 22 rfl W0.heap.size 48 i0 (.agg #[.int .i64 0,.int .i64 0]) 2 16 und_nums hi hz0 hz1 hz2 rfl (by decide) g0 rfl own a1 n c (nums gs) rfl hln (fun h0 => (hsrc.out h0).imp fun ad h => ⟨h.1,fun j u hu => (Below.cell KT (p:=ad.add j) (by rw [addB]; exact h.2.1)).trans (h.2.2 j u hu)⟩) (nums_one gs) h63 (by omega) KT.size ?_
    intro g2 cap2 W2 own2 hg2
    have KT:=kept_grown KT hg2 g0b
    have g2l:=(row_of_owns own2).2.2.elim fun f h => h.1.lt
    refine hK.out _ _ (sS.out _ KT) (fun hHeld => ?_)
    have own:=own2
    clear hK K hg2 own2
    clear g0l
    refine anyZ_ready (rs:=[5]) (by kernel_rfl) (by simp) ?_
    refine AllZ.cons rfl (fun K hK => ?_) AllZ.nil
    go_simp
    refine hK.out _ _ (sS.out _ (KT.alloc _)) (fun hHeld => ?_)
    clear hK K
    have Hm:=mark2 48 W2 (.int .i64 77) (.int .i64 0)
    have lm:W2.heap.size < (W2.alloc (.cells #[.int .i64 77,.int .i64 0] 48)).heap.size:=by simp
    have ne:¬ W2.heap.size = g2:=by omega
    have own:=own.alloc (.cells #[.int .i64 77,.int .i64 0] 48)
    have g2l:g2 < (W2.alloc (.cells #[.int .i64 77,.int .i64 0] 48)).heap.size:=by simp; omega
    have KT:=KT.alloc (.cells #[.int .i64 77,.int .i64 0] 48)
    obtain ⟨bm,hbm⟩:∃ g,g = W2.heap.size:=⟨_,rfl⟩
    rw [<- hbm] at Hm lm ne ⊢
    generalize W2.alloc (.cells #[.int .i64 77,.int .i64 0] 48) = W2m at Hm lm KT hHeld own g2l ⊢
    clear hbm
    refine anyZ_ready (rs:=[6]) (by kernel_rfl) (by simp) ?_
    refine AllZ.cons rfl (fun K hK => ?_) AllZ.nil
    refine step_append_lies _ rfl (.tmp 6) (.tmp 8) 22 rfl W0.heap.size 48 i0 (.agg #[.int .i64 0,.int .i64 0]) 2 16 und_nums hi hz0 hz1 hz2 rfl (by decide) (.slice (some ⟨g2,0,none⟩) n cap2) n (nums gs) rfl own ⟨bm,0,none⟩ 1 1 [.int .i64 77,.int .i64 0] rfl rfl Hm (fun u hu => by simp at hu; rcases hu with rfl | rfl <;> rfl) (by omega) h63' (by omega) KT.size _ rfl ?_
    intro g4 cap4 W4 own4 hg4 _ _
    have KT:=kept_grown KT hg4 (row_of_owns own).1
    refine hK.out _ _ (sS.out _ KT) (fun hHeld => ?_)
    clear hK K hg4 own Hm
    obtain ⟨gb,gc,f,gr,gv⟩:=row_of_owns own4
    have gc':n<=cap4:=by omega
    refine anyZ_take (i:=10) (v:=?vx1a) rfl (by kernel_rfl) (by kernel_rfl) (by kernel_rfl) (by kernel_rfl) (fun _ _ _ h => h) (Or.inl ⟨by rfl,?yx1a⟩) hHeld ?rx1a
    case yx1a =>
     intro w' hSw
     obtain ⟨hSw0,hSw1⟩:=hSw
     go_simp
     with_reducible rfl
    case rx1a =>
    refine anyZ_take (i:=11) (v:=?vx1b) rfl (by kernel_rfl) (by kernel_rfl) (by kernel_rfl) (by kernel_rfl) (fun _ _ _ h => h) (Or.inl ⟨by rfl,?yx1b⟩) hHeld ?rx1b
    case yx1b =>
     intro w' hSw
     obtain ⟨hSw0,hSw1⟩:=hSw
     go_simp
     with_reducible rfl
    case rx1b =>
    have hP:=HP.out.1.kept KT
    have hP1:=hP.c2
    have hP2:=hP.fz 2
    refine anyZ_ready (rs:=[12]) (by kernel_rfl) (by simp) ?_
    refine AllZ.last rfl (fun K hK => ?_)
    go_simp
    refine hK.out _ _ ?_
    clear hK K
    refine anyZ_done (by kernel_rfl) ?_ _
    go_wp2_with fail
    go_meet
    case rel => exact ⟨g4,cap4,f,rfl,half_of2 HP.out.2 hP KT gb gc gr gv⟩
   ·
    refine AllZ.cons rfl (fun K hK => ?_) AllZ.nil
    go_simp
    refine hK.out _ _ (sS.out _ (KT.alloc _)) (fun hHeld => ?_)
    clear hK K
    have Hm:=mark2 48 Wde (.int .i64 77) (.int .i64 0)
    have lm:Wde.heap.size < (Wde.alloc (.cells #[.int .i64 77,.int .i64 0] 48)).heap.size:=by simp
    have ne:¬ Wde.heap.size = g0:=by omega
    have own:=own.alloc (.cells #[.int .i64 77,.int .i64 0] 48)
    have g0l:g0 < (Wde.alloc (.cells #[.int .i64 77,.int .i64 0] 48)).heap.size:=by simp; omega
    have KT:=KT.alloc (.cells #[.int .i64 77,.int .i64 0] 48)
    obtain ⟨bm,hbm⟩:∃ g,g = Wde.heap.size:=⟨_,rfl⟩
    rw [<- hbm] at Hm lm ne ⊢
    generalize Wde.alloc (.cells #[.int .i64 77,.int .i64 0] 48) = Wdem at Hm lm KT hHeld own g0l ⊢
    clear hbm
    refine anyZ_ready (rs:=[3]) (by kernel_rfl) (by simp) ?_
    refine AllZ.cons rfl (fun K hK => ?_) AllZ.nil
    refine step_src rfl (.tmp 3) (.tmp 5) 22 rfl W0.heap.size 48 i0 (.agg #[.int .i64 0,.int .i64 0]) 2 16 und_nums hi hz0 hz1 hz2 rfl (by decide) g0 rfl own a1 n c (nums gs) rfl hln (fun h0 => (hsrc.out h0).imp fun ad h => ⟨h.1,fun j u hu => (Below.cell KT (p:=ad.add j) (by rw [addB]; exact h.2.1)).trans (h.2.2 j u hu)⟩) (nums_one gs) h63 (by omega) KT.size ?_
    intro g2 cap2 W2 own2 hg2
    have KT:=kept_grown KT hg2 g0b
    have g2l:=(row_of_owns own2).2.2.elim fun f h => h.1.lt
    have Hm:=marks_kept Hm (hg2.block bm lm (by simp; exact ne))
    refine hK.out _ _ (sS.out _ KT) (fun hHeld => ?_)
    have own:=own2
    clear hK K hg2 own2
    refine anyZ_ready (rs:=[6]) (by kernel_rfl) (by simp) ?_
    refine AllZ.cons rfl (fun K hK => ?_) AllZ.nil
    refine step_append_lies _ rfl (.tmp 6) (.tmp 8) 22 rfl W0.heap.size 48 i0 (.agg #[.int .i64 0,.int .i64 0]) 2 16 und_nums hi hz0 hz1 hz2 rfl (by decide) (.slice (some ⟨g2,0,none⟩) n cap2) n (nums gs) rfl own ⟨bm,0,none⟩ 1 1 [.int .i64 77,.int .i64 0] rfl rfl Hm (fun u hu => by simp at hu; rcases hu with rfl | rfl <;> rfl) (by omega) h63' (by omega) KT.size _ rfl ?_
    intro g4 cap4 W4 own4 hg4 _ _
    have KT:=kept_grown KT hg4 (row_of_owns own).1
    refine hK.out _ _ (sS.out _ KT) (fun hHeld => ?_)
    clear hK K hg4 own Hm
    obtain ⟨gb,gc,f,gr,gv⟩:=row_of_owns own4
    have gc':n<=cap4:=by omega
    refine anyZ_take (i:=10) (v:=?vx2a) rfl (by kernel_rfl) (by kernel_rfl) (by kernel_rfl) (by kernel_rfl) (fun _ _ _ h => h) (Or.inl ⟨by rfl,?yx2a⟩) hHeld ?rx2a
    case yx2a =>
     intro w' hSw
     obtain ⟨hSw0,hSw1⟩:=hSw
     go_simp
     with_reducible rfl
    case rx2a =>
    refine anyZ_take (i:=11) (v:=?vx2b) rfl (by kernel_rfl) (by kernel_rfl) (by kernel_rfl) (by kernel_rfl) (fun _ _ _ h => h) (Or.inl ⟨by rfl,?yx2b⟩) hHeld ?rx2b
    case yx2b =>
     intro w' hSw
     obtain ⟨hSw0,hSw1⟩:=hSw
     go_simp
     with_reducible rfl
    case rx2b =>
    have hP:=HP.out.1.kept KT
    have hP1:=hP.c2
    have hP2:=hP.fz 2
    refine anyZ_ready (rs:=[12]) (by kernel_rfl) (by simp) ?_
    refine AllZ.last rfl (fun K hK => ?_)
    go_simp
    refine hK.out _ _ ?_
    clear hK K
    refine anyZ_done (by kernel_rfl) ?_ _
    go_wp2_with fail
    go_meet
    case rel => exact ⟨g4,cap4,f,rfl,half_of2 HP.out.2 hP KT gb gc gr gv⟩
  ·
   refine AllZ.cons rfl (fun K hK => ?_) AllZ.nil
   go_simp
   refine hK.out _ _ (sS.out _ (KT.alloc _)) (fun hHeld => ?_)
   clear hK K
   have Hm:=mark2 48 Wd (.int .i64 77) (.int .i64 0)
   have lm:Wd.heap.size < (Wd.alloc (.cells #[.int .i64 77,.int .i64 0] 48)).heap.size:=by simp
   have KT:=KT.alloc (.cells #[.int .i64 77,.int .i64 0] 48)
   obtain ⟨bm,hbm⟩:∃ g,g = Wd.heap.size:=⟨_,rfl⟩
   rw [<- hbm] at Hm lm ⊢
   generalize Wd.alloc (.cells #[.int .i64 77,.int .i64 0] 48) = Wdm at Hm lm KT hHeld ⊢
   clear hbm
   refine anyZ_ready (rs:=[0]) (by kernel_rfl) (by simp) ?_
   refine AllZ.cons rfl (fun K hK => ?_) AllZ.nil
   go_simp
   refine hK.out _ _ (sS.out _ (KT.alloc _)) (fun hHeld => ?_)
   clear hK K
   have own:=own_nil 48 2 Wdm W0.heap.size KT.size
   have Hm:=marks_kept Hm (heap_alloc_lt' Wdm (.cells #[] 48) bm lm)
   have ne:¬ bm = Wdm.heap.size:=by omega
   have g0b:W0.heap.size<=Wdm.heap.size:=KT.size
   have g0l:Wdm.heap.size < (Wdm.alloc (.cells #[] 48)).heap.size:=by simp
   have KT:=KT.alloc (.cells #[] 48)
   have lm:bm < (Wdm.alloc (.cells #[] 48)).heap.size:=by simp; omega
   obtain ⟨g0,hg0⟩:∃ g,g = Wdm.heap.size:=⟨_,rfl⟩
   rw [<- hg0] at own g0b g0l ne ⊢
   generalize Wdm.alloc (.cells #[] 48) = Wdme at own KT hHeld g0l Hm lm ⊢
   clear hg0
   refine anyZ_ready (rs:=[3]) (by kernel_rfl) (by simp) ?_
   refine AllZ.cons rfl (fun K hK => ?_) AllZ.nil
   refine step_src rfl (.tmp 3) (.tmp 5) 22 rfl W0.heap.size 48 i0 (.agg #[.int .i64 0,.int .i64 0]) 2 16 und_nums hi hz0 hz1 hz2 rfl (by decide) g0 rfl own a1 n c (nums gs) rfl hln (fun h0 => (hsrc.out h0).imp fun ad h => ⟨h.1,fun j u hu => (Below.cell KT (p:=ad.add j) (by rw [addB]; exact h.2.1)).trans (h.2.2 j u hu)⟩) (nums_one gs) h63 (by omega) KT.size ?_
   intro g2 cap2 W2 own2 hg2
   have KT:=kept_grown KT hg2 g0b
   have g2l:=(row_of_owns own2).2.2.elim fun f h => h.1.lt
   have Hm:=marks_kept Hm (hg2.block bm lm (by simp; exact ne))
   refine hK.out _ _ (sS.out _ KT) (fun hHeld => ?_)
   have own:=own2
   clear hK K hg2 own2
   refine anyZ_ready (rs:=[6]) (by kernel_rfl) (by simp) ?_
   refine AllZ.cons rfl (fun K hK => ?_) AllZ.nil
   refine step_append_lies _ rfl (.tmp 6) (.tmp 8) 22 rfl W0.heap.size 48 i0 (.agg #[.int .i64 0,.int .i64 0]) 2 16 und_nums hi hz0 hz1 hz2 rfl (by decide) (.slice (some ⟨g2,0,none⟩) n cap2) n (nums gs) rfl own ⟨bm,0,none⟩ 1 1 [.int .i64 77,.int .i64 0] rfl rfl Hm (fun u hu => by simp at hu; rcases hu with rfl | rfl <;> rfl) (by omega) h63' (by omega) KT.size _ rfl ?_
   intro g4 cap4 W4 own4 hg4 _ _
   have KT:=kept_grown KT hg4 (row_of_owns own).1
   refine hK.out _ _ (sS.out _ KT) (fun hHeld => ?_)
   clear hK K hg4 own Hm
   obtain ⟨gb,gc,f,gr,gv⟩:=row_of_owns own4
   have gc':n<=cap4:=by omega
   refine anyZ_take (i:=10) (v:=?vx3a) rfl (by kernel_rfl) (by kernel_rfl) (by kernel_rfl) (by kernel_rfl) (fun _ _ _ h => h) (Or.inl ⟨by rfl,?yx3a⟩) hHeld ?rx3a
   case yx3a =>
    intro w' hSw
    obtain ⟨hSw0,hSw1⟩:=hSw
    go_simp
    with_reducible rfl
   case rx3a =>
   refine anyZ_take (i:=11) (v:=?vx3b) rfl (by kernel_rfl) (by kernel_rfl) (by kernel_rfl) (by kernel_rfl) (fun _ _ _ h => h) (Or.inl ⟨by rfl,?yx3b⟩) hHeld ?rx3b
   case yx3b =>
    intro w' hSw
    obtain ⟨hSw0,hSw1⟩:=hSw
    go_simp
    with_reducible rfl
   case rx3b =>
   have hP:=HP.out.1.kept KT
   have hP1:=hP.c2
   have hP2:=hP.fz 2
   refine anyZ_ready (rs:=[12]) (by kernel_rfl) (by simp) ?_
   refine AllZ.last rfl (fun K hK => ?_)
   go_simp
   refine hK.out _ _ ?_
   clear hK K
   refine anyZ_done (by kernel_rfl) ?_ _
   go_wp2_with fail
   go_meet
   case rel => exact ⟨g4,cap4,f,rfl,half_of2 HP.out.2 hP KT gb gc gr gv⟩
 case rest =>
  obtain ⟨g1,cap1,f1,rfl,H1⟩:=hcut
  have HP2:Hid (Row4 24 wc p (.string s) (.int .u8 k) (.slice (some ⟨g1,0,none⟩) n cap1) (.slice a2 m c')/\Kept w wc/\w.heap.size<=p/\p < wc.heap.size/\¬ q = p/\Row4 24 wc q (.string ⟨#[]⟩) (.int .u8 0) (.slice none 0 0) (.slice none 0 0)):=⟨H1.out.rp,H1.out.kp,HP.out.2.2.1,H1.out.rp.lt,HP.out.2.2.2.2.1,H1.out.rq⟩
  have HG:Hid (¬ g1 = p/\w.heap.size<=g1/\¬ g1 = q/\n + 1<=cap1/\wc.rowIs g1 48 (cap1 * 2) f1/\∀ i u,(nums gs ++ [.int .i64 77,.int .i64 0])[i]? = some u->f1 i = u):=⟨fun e => by have h1:=HP.out.2.2.2.1; have h2:=H1.out.gb; omega,Nat.le_trans HP.out.2.1.size H1.out.gb,fun e => by have h1:=HP.out.2.2.2.2.2.lt; have h2:=H1.out.gb; omega,H1.out.gc,H1.out.r,H1.out.v⟩
  clear HP hsrc H1 hln h63 h63'
  have hln:(nums vs).length = m * 2:=by rw [nums_len,<- (NSl.src HS.out.2).1]
  have h63:m<=maxLen:=by unfold maxLen; omega
  have h63':m + 1<=maxLen:=by unfold maxLen; omega
  have hsrc2:Hid (0 < m->∃ ad:Addr,a2 = some ad/\ad.block < wc.heap.size/\∀ j u,(nums vs)[j]? = some u->wc.cell? (ad.add j) = some u):=(NSl.src (HS.out.2.kept HP2.out.2.1)).2
  go_upto_region 2 with fail
  go_cut [25] (fun s25 wd => ∃ g cap f,s25 = .slice (some ⟨g,0,none⟩) m cap/\Hid (Half w wc wd p q s k (.slice (some ⟨g1,0,none⟩) n cap1) (.slice (some ⟨g,0,none⟩) m cap) g 48 2 m cap (nums vs ++ [.int .i64 78,.int .i64 0]) f))
  case first =>
   obtain ⟨i0,hi,hz0,hz1,hz2⟩:=info_parts info_num
   have sS:=hid' (fun (V:World) (K:Kept wc V) => And.intro ((HP2.out.1.kept K).c1) ((HP2.out.1.kept K).c3))
   have KT:Kept wc wc.drew:=(Kept.refl _).drew
   refine region_z 12 (S:=fun w' => w'.cell? ⟨p,1,none⟩ = some (.int .u8 k)/\w'.cell? ⟨p,3,none⟩ = some (.slice a2 m c')) (by kernel_rfl) (sS.out _ KT) (fun hHeld => ?_)
   generalize wc.drew = Wd at KT hHeld ⊢
   refine anyZ_take (i:=1) (v:=?vut1) rfl (by kernel_rfl) (by kernel_rfl) (by kernel_rfl) (by kernel_rfl) (fun _ _ _ h => h) (Or.inl ⟨by rfl,?yut1⟩) hHeld ?rut1
   case yut1 =>
    intro w' hSw
    obtain ⟨hSw0,hSw1⟩:=hSw
    go_simp
    with_reducible rfl
   case rut1 =>
   refine anyZ_take (i:=2) (v:=?vut2) rfl (by kernel_rfl) (by kernel_rfl) (by kernel_rfl) (by kernel_rfl) (fun _ _ _ h => h) (Or.inl ⟨by rfl,?yut2⟩) hHeld ?rut2
   case yut2 =>
    intro w' hSw
    obtain ⟨hSw0,hSw1⟩:=hSw
    go_simp
    with_reducible rfl
   case rut2 =>
   refine anyZ_take (i:=4) (v:=?vut4) rfl (by kernel_rfl) (by kernel_rfl) (by kernel_rfl) (by kernel_rfl) (fun _ _ _ h => h) (Or.inl ⟨by rfl,?yut4⟩) hHeld ?rut4
   case yut4 =>
    intro w' hSw
    obtain ⟨hSw0,hSw1⟩:=hSw
    go_simp
    with_reducible rfl
   case rut4 =>
   refine anyZ_take (i:=7) (v:=?vut7) rfl (by kernel_rfl) (by kernel_rfl) (by kernel_rfl) (by kernel_rfl) (fun _ _ _ h => h) (Or.inl ⟨by rfl,?yut7⟩) hHeld ?rut7
   case yut7 =>
    intro w' hSw
    obtain ⟨hSw0,hSw1⟩:=hSw
    go_simp
    with_reducible rfl
   case rut7 =>
   refine anyZ_take (i:=8) (v:=?vut8) rfl (by kernel_rfl) (by kernel_rfl) (by kernel_rfl) (by kernel_rfl) (fun _ _ _ h => h) (Or.inl ⟨by rfl,?yut8⟩) hHeld ?rut8
   case yut8 =>
    intro w' hSw
    obtain ⟨hSw0,hSw1⟩:=hSw
    go_simp
    with_reducible rfl
   case rut8 =>
   refine anyZ_take (i:=9) (v:=?vut9) rfl (by kernel_rfl) (by kernel_rfl) (by kernel_rfl) (by kernel_rfl) (fun _ _ _ h => h) (Or.inl ⟨by rfl,?yut9⟩) hHeld ?rut9
   case yut9 =>
    intro w' hSw
    obtain ⟨hSw0,hSw1⟩:=hSw
    go_simp
    with_reducible rfl
   case rut9 =>
   refine anyZ_ready (rs:=[0,5]) (by kernel_rfl) (by simp) ?_
   refine AllZ.cons rfl (fun K hK => ?_) ?_
   ·
    skip
    go_simp
    refine hK.out _ _ (sS.out _ (KT.alloc _)) (fun hHeld => ?_)
    clear hK K
    have own:=own_nil 48 2 Wd wc.heap.size KT.size
    have g0b:wc.heap.size<=Wd.heap.size:=KT.size
    have g0l:Wd.heap.size < (Wd.alloc (.cells #[] 48)).heap.size:=by simp
    have KT:=KT.alloc (.cells #[] 48)
    obtain ⟨g0,hg0⟩:∃ g,g = Wd.heap.size:=⟨_,rfl⟩
    rw [<- hg0] at own g0b g0l ⊢
    generalize Wd.alloc (.cells #[] 48) = Wde at own KT hHeld g0l ⊢
    clear hg0
    refine anyZ_ready (rs:=[3,5]) (by kernel_rfl) (by simp) ?_
    refine AllZ.cons rfl (fun K hK => ?_) ?_
    ·
     skip
     refine step_src rfl (.tmp 15) (.tmp 17) 22 rfl wc.heap.size 48 i0 (.agg #[.int .i64 0,.int .i64 0]) 2 16 und_nums hi hz0 hz1 hz2 rfl (by decide) g0 rfl own a2 m c' (nums vs) rfl hln (fun h0 => (hsrc2.out h0).imp fun ad h => ⟨h.1,fun j u hu => (Below.cell KT (p:=ad.add j) (by rw [addB]; exact h.2.1)).trans (h.2.2 j u hu)⟩) (nums_one vs) h63 (by omega) KT.size ?_
     intro g2 cap2 W2 own2 hg2
     have KT:=kept_grown KT hg2 g0b
     have g2l:=(row_of_owns own2).2.2.elim fun f h => h.1.lt
     refine hK.out _ _ (sS.out _ KT) (fun hHeld => ?_)
     have own:=own2
     clear hK K hg2 own2
     clear g0l
     refine anyZ_ready (rs:=[5]) (by kernel_rfl) (by simp) ?_
     refine AllZ.cons rfl (fun K hK => ?_) AllZ.nil
     go_simp
     refine hK.out _ _ (sS.out _ (KT.alloc _)) (fun hHeld => ?_)
     clear hK K
     have Hm:=mark2 48 W2 (.int .i64 78) (.int .i64 0)
     have lm:W2.heap.size < (W2.alloc (.cells #[.int .i64 78,.int .i64 0] 48)).heap.size:=by simp
     have ne:¬ W2.heap.size = g2:=by omega
     have own:=own.alloc (.cells #[.int .i64 78,.int .i64 0] 48)
     have g2l:g2 < (W2.alloc (.cells #[.int .i64 78,.int .i64 0] 48)).heap.size:=by simp; omega
     have KT:=KT.alloc (.cells #[.int .i64 78,.int .i64 0] 48)
     obtain ⟨bm,hbm⟩:∃ g,g = W2.heap.size:=⟨_,rfl⟩
     rw [<- hbm] at Hm lm ne ⊢
     generalize W2.alloc (.cells #[.int .i64 78,.int .i64 0] 48) = W2m at Hm lm KT hHeld own g2l ⊢
     clear hbm
     refine anyZ_ready (rs:=[6]) (by kernel_rfl) (by simp) ?_
     refine AllZ.cons rfl (fun K hK => ?_) AllZ.nil
     refine step_append_lies _ rfl (.tmp 18) (.tmp 20) 22 rfl wc.heap.size 48 i0 (.agg #[.int .i64 0,.int .i64 0]) 2 16 und_nums hi hz0 hz1 hz2 rfl (by decide) (.slice (some ⟨g2,0,none⟩) m cap2) m (nums vs) rfl own ⟨bm,0,none⟩ 1 1 [.int .i64 78,.int .i64 0] rfl rfl Hm (fun u hu => by simp at hu; rcases hu with rfl | rfl <;> rfl) (by omega) h63' (by omega) KT.size _ rfl ?_
     intro g4 cap4 W4 own4 hg4 _ _
     have KT:=kept_grown KT hg4 (row_of_owns own).1
     refine hK.out _ _ (sS.out _ KT) (fun hHeld => ?_)
     clear hK K hg4 own Hm
     obtain ⟨gb,gc,f,gr,gv⟩:=row_of_owns own4
     have gc':m<=cap4:=by omega
     refine anyZ_take (i:=10) (v:=?vu1a) rfl (by kernel_rfl) (by kernel_rfl) (by kernel_rfl) (by kernel_rfl) (fun _ _ _ h => h) (Or.inl ⟨by rfl,?yu1a⟩) hHeld ?ru1a
     case yu1a =>
      intro w' hSw
      obtain ⟨hSw0,hSw1⟩:=hSw
      go_simp
      with_reducible rfl
     case ru1a =>
     refine anyZ_take (i:=11) (v:=?vu1b) rfl (by kernel_rfl) (by kernel_rfl) (by kernel_rfl) (by kernel_rfl) (fun _ _ _ h => h) (Or.inl ⟨by rfl,?yu1b⟩) hHeld ?ru1b
     case yu1b =>
      intro w' hSw
      obtain ⟨hSw0,hSw1⟩:=hSw
      go_simp
      with_reducible rfl
     case ru1b =>
     have hP:=HP2.out.1.kept KT
     have hP1:=hP.c3
     have hP2:=hP.fz 3
     refine anyZ_ready (rs:=[12]) (by kernel_rfl) (by simp) ?_
     refine AllZ.last rfl (fun K hK => ?_)
     go_simp
     refine hK.out _ _ ?_
     clear hK K
     refine anyZ_done (by kernel_rfl) ?_ _
     go_wp2_with fail
     go_meet
     case rel => exact ⟨g4,cap4,f,rfl,half_of3 HP2.out.2 hP KT gb gc gr gv⟩
    ·
     refine AllZ.cons rfl (fun K hK => ?_) AllZ.nil
     go_simp
     refine hK.out _ _ (sS.out _ (KT.alloc _)) (fun hHeld => ?_)
     clear hK K
     have Hm:=mark2 48 Wde (.int .i64 78) (.int .i64 0)
     have lm:Wde.heap.size < (Wde.alloc (.cells #[.int .i64 78,.int .i64 0] 48)).heap.size:=by simp
     have ne:¬ Wde.heap.size = g0:=by omega
     have own:=own.alloc (.cells #[.int .i64 78,.int .i64 0] 48)
     have g0l:g0 < (Wde.alloc (.cells #[.int .i64 78,.int .i64 0] 48)).heap.size:=by simp; omega
     have KT:=KT.alloc (.cells #[.int .i64 78,.int .i64 0] 48)
     obtain ⟨bm,hbm⟩:∃ g,g = Wde.heap.size:=⟨_,rfl⟩
     rw [<- hbm] at Hm lm ne ⊢
     generalize Wde.alloc (.cells #[.int .i64 78,.int .i64 0] 48) = Wdem at Hm lm KT hHeld own g0l ⊢
     clear hbm
     refine anyZ_ready (rs:=[3]) (by kernel_rfl) (by simp) ?_
     refine AllZ.cons rfl (fun K hK => ?_) AllZ.nil
     refine step_src rfl (.tmp 15) (.tmp 17) 22 rfl wc.heap.size 48 i0 (.agg #[.int .i64 0,.int .i64 0]) 2 16 und_nums hi hz0 hz1 hz2 rfl (by decide) g0 rfl own a2 m c' (nums vs) rfl hln (fun h0 => (hsrc2.out h0).imp fun ad h => ⟨h.1,fun j u hu => (Below.cell KT (p:=ad.add j) (by rw [addB]; exact h.2.1)).trans (h.2.2 j u hu)⟩) (nums_one vs) h63 (by omega) KT.size ?_
     intro g2 cap2 W2 own2 hg2
     have KT:=kept_grown KT hg2 g0b
     have g2l:=(row_of_owns own2).2.2.elim fun f h => h.1.lt
     have Hm:=marks_kept Hm (hg2.block bm lm (by simp; exact ne))
     refine hK.out _ _ (sS.out _ KT) (fun hHeld => ?_)
     have own:=own2
     clear hK K hg2 own2
     refine anyZ_ready (rs:=[6]) (by kernel_rfl) (by simp) ?_
     refine AllZ.cons rfl (fun K hK => ?_) AllZ.nil
     refine step_append_lies _ rfl (.tmp 18) (.tmp 20) 22 rfl wc.heap.size 48 i0 (.agg #[.int .i64 0,.int .i64 0]) 2 16 und_nums hi hz0 hz1 hz2 rfl (by decide) (.slice (some ⟨g2,0,none⟩) m cap2) m (nums vs) rfl own ⟨bm,0,none⟩ 1 1 [.int .i64 78,.int .i64 0] rfl rfl Hm (fun u hu => by simp at hu; rcases hu with rfl | rfl <;> rfl) (by omega) h63' (by omega) KT.size _ rfl ?_
     intro g4 cap4 W4 own4 hg4 _ _
     have KT:=kept_grown KT hg4 (row_of_owns own).1
     refine hK.out _ _ (sS.out _ KT) (fun hHeld => ?_)
     clear hK K hg4 own Hm
     obtain ⟨gb,gc,f,gr,gv⟩:=row_of_owns own4
     have gc':m<=cap4:=by omega
     refine anyZ_take (i:=10) (v:=?vu2a) rfl (by kernel_rfl) (by kernel_rfl) (by kernel_rfl) (by kernel_rfl) (fun _ _ _ h => h) (Or.inl ⟨by rfl,?yu2a⟩) hHeld ?ru2a
     case yu2a =>
      intro w' hSw
      obtain ⟨hSw0,hSw1⟩:=hSw
      go_simp
      with_reducible rfl
     case ru2a =>
     refine anyZ_take (i:=11) (v:=?vu2b) rfl (by kernel_rfl) (by kernel_rfl) (by kernel_rfl) (by kernel_rfl) (fun _ _ _ h => h) (Or.inl ⟨by rfl,?yu2b⟩) hHeld ?ru2b
     case yu2b =>
      intro w' hSw
      obtain ⟨hSw0,hSw1⟩:=hSw
      go_simp
      with_reducible rfl
     case ru2b =>
     have hP:=HP2.out.1.kept KT
     have hP1:=hP.c3
     have hP2:=hP.fz 3
     refine anyZ_ready (rs:=[12]) (by kernel_rfl) (by simp) ?_
     refine AllZ.last rfl (fun K hK => ?_)
     go_simp
     refine hK.out _ _ ?_
     clear hK K
     refine anyZ_done (by kernel_rfl) ?_ _
     go_wp2_with fail
     go_meet
     case rel => exact ⟨g4,cap4,f,rfl,half_of3 HP2.out.2 hP KT gb gc gr gv⟩
   ·
    refine AllZ.cons rfl (fun K hK => ?_) AllZ.nil
    go_simp
    refine hK.out _ _ (sS.out _ (KT.alloc _)) (fun hHeld => ?_)
    clear hK K
    have Hm:=mark2 48 Wd (.int .i64 78) (.int .i64 0)
    have lm:Wd.heap.size < (Wd.alloc (.cells #[.int .i64 78,.int .i64 0] 48)).heap.size:=by simp
    have KT:=KT.alloc (.cells #[.int .i64 78,.int .i64 0] 48)
    obtain ⟨bm,hbm⟩:∃ g,g = Wd.heap.size:=⟨_,rfl⟩
    rw [<- hbm] at Hm lm ⊢
    generalize Wd.alloc (.cells #[.int .i64 78,.int .i64 0] 48) = Wdm at Hm lm KT hHeld ⊢
    clear hbm
    refine anyZ_ready (rs:=[0]) (by kernel_rfl) (by simp) ?_
    refine AllZ.cons rfl (fun K hK => ?_) AllZ.nil
    go_simp
    refine hK.out _ _ (sS.out _ (KT.alloc _)) (fun hHeld => ?_)
    clear hK K
    have own:=own_nil 48 2 Wdm wc.heap.size KT.size
    have Hm:=marks_kept Hm (heap_alloc_lt' Wdm (.cells #[] 48) bm lm)
    have ne:¬ bm = Wdm.heap.size:=by omega
    have g0b:wc.heap.size<=Wdm.heap.size:=KT.size
    have g0l:Wdm.heap.size < (Wdm.alloc (.cells #[] 48)).heap.size:=by simp
    have KT:=KT.alloc (.cells #[] 48)
    have lm:bm < (Wdm.alloc (.cells #[] 48)).heap.size:=by simp; omega
    obtain ⟨g0,hg0⟩:∃ g,g = Wdm.heap.size:=⟨_,rfl⟩
    rw [<- hg0] at own g0b g0l ne ⊢
    generalize Wdm.alloc (.cells #[] 48) = Wdme at own KT hHeld g0l Hm lm ⊢
    clear hg0
    refine anyZ_ready (rs:=[3]) (by kernel_rfl) (by simp) ?_
    refine AllZ.cons rfl (fun K hK => ?_) AllZ.nil
    refine step_src rfl (.tmp 15) (.tmp 17) 22 rfl wc.heap.size 48 i0 (.agg #[.int .i64 0,.int .i64 0]) 2 16 und_nums hi hz0 hz1 hz2 rfl (by decide) g0 rfl own a2 m c' (nums vs) rfl hln (fun h0 => (hsrc2.out h0).imp fun ad h => ⟨h.1,fun j u hu => (Below.cell KT (p:=ad.add j) (by rw [addB]; exact h.2.1)).trans (h.2.2 j u hu)⟩) (nums_one vs) h63 (by omega) KT.size ?_
    intro g2 cap2 W2 own2 hg2
    have KT:=kept_grown KT hg2 g0b
    have g2l:=(row_of_owns own2).2.2.elim fun f h => h.1.lt
    have Hm:=marks_kept Hm (hg2.block bm lm (by simp; exact ne))
    refine hK.out _ _ (sS.out _ KT) (fun hHeld => ?_)
    have own:=own2
    clear hK K hg2 own2
    refine anyZ_ready (rs:=[6]) (by kernel_rfl) (by simp) ?_
    refine AllZ.cons rfl (fun K hK => ?_) AllZ.nil
    refine step_append_lies _ rfl (.tmp 18) (.tmp 20) 22 rfl wc.heap.size 48 i0 (.agg #[.int .i64 0,.int .i64 0]) 2 16 und_nums hi hz0 hz1 hz2 rfl (by decide) (.slice (some ⟨g2,0,none⟩) m cap2) m (nums vs) rfl own ⟨bm,0,none⟩ 1 1 [.int .i64 78,.int .i64 0] rfl rfl Hm (fun u hu => by simp at hu; rcases hu with rfl | rfl <;> rfl) (by omega) h63' (by omega) KT.size _ rfl ?_
    intro g4 cap4 W4 own4 hg4 _ _
    have KT:=kept_grown KT hg4 (row_of_owns own).1
    refine hK.out _ _ (sS.out _ KT) (fun hHeld => ?_)
    clear hK K hg4 own Hm
    obtain ⟨gb,gc,f,gr,gv⟩:=row_of_owns own4
    have gc':m<=cap4:=by omega
    refine anyZ_take (i:=10) (v:=?vu3a) rfl (by kernel_rfl) (by kernel_rfl) (by kernel_rfl) (by kernel_rfl) (fun _ _ _ h => h) (Or.inl ⟨by rfl,?yu3a⟩) hHeld ?ru3a
    case yu3a =>
     intro w' hSw
     obtain ⟨hSw0,hSw1⟩:=hSw
     go_simp
     with_reducible rfl
    case ru3a =>
    refine anyZ_take (i:=11) (v:=?vu3b) rfl (by kernel_rfl) (by kernel_rfl) (by kernel_rfl) (by kernel_rfl) (fun _ _ _ h => h) (Or.inl ⟨by rfl,?yu3b⟩) hHeld ?ru3b
    case yu3b =>
     intro w' hSw
     obtain ⟨hSw0,hSw1⟩:=hSw
     go_simp
     with_reducible rfl
    case ru3b =>
    have hP:=HP2.out.1.kept KT
    have hP1:=hP.c3
    have hP2:=hP.fz 3
    refine anyZ_ready (rs:=[12]) (by kernel_rfl) (by simp) ?_
    refine AllZ.last rfl (fun K hK => ?_)
    go_simp
    refine hK.out _ _ ?_
    clear hK K
    refine anyZ_done (by kernel_rfl) ?_ _
    go_wp2_with fail
    go_meet
    case rel => exact ⟨g4,cap4,f,rfl,half_of3 HP2.out.2 hP KT gb gc gr gv⟩
  case rest =>
   obtain ⟨g2,cap2,f2,rfl,H2⟩:=hcut
   have c0:=H2.out.rp.c0
   have c1:=H2.out.rp.c1
   have c2:=H2.out.rp.c2
   have c3:=H2.out.rp.c3
   have d0:=H2.out.rq.c0
   have d1:=H2.out.rq.c1
   have d2:=H2.out.rq.c2
   have d3:=H2.out.rq.c3
   have e0:=H2.out.rq.fz 0
   have e1:=H2.out.rq.fz 1
   have e2:=H2.out.rq.fz 2
   have e3:=H2.out.rq.fz 3
   have LE:=hid' (lent_end HQ.out (NSl.src HS.out.1).1 (NSl.src HS.out.2).1 HP2.out HG.out.2 HG.out.1 H2.out)
   go_wp2_with fail
   refine bodyPost_ret (v:=.agg #[.string s,.int .u8 k,.slice (some ⟨g1,0,none⟩) n cap1,.slice (some ⟨g2,0,none⟩) m cap2]) (by simp [results,Tryz.results8,go_sem,d0,d1,d2,d3]) rfl ⟨(LE.out _ _ _ _).1,g1,cap1,g2,cap2,f1,f2,rfl,(LE.out _ _ _ _).2⟩
open Q (hid' Row3 Row2 okN okN_bd Scl RQ)
theorem low_one {N N' A:Int} {D D' S:Nat} (hS:0 < S) (hD:0 < D) (c1:Nat.Coprime N.natAbs D) (c2:Nat.Coprime N'.natAbs D') (e:N * (S:Int) = A * D) (e':N' * (S:Int) = A * D'):N = N'/\D = D':=by
 have key:N * (D':Int) = N' * D:=by
  apply Int.eq_of_mul_eq_mul_right (show (S:Int) ≠ 0 by omega)
  calc N * D' * S = N * S * D':=Int.mul_right_comm _ _ _
   _ = A * D * D':=by rw [e]
   _ = A * D' * D:=Int.mul_right_comm _ _ _
   _ = N' * S * D:=by rw [e']
   _ = N' * D * S:=Int.mul_right_comm _ _ _
 have kn:=congrArg Int.natAbs key
 rw [Int.natAbs_mul,Int.natAbs_mul,Int.natAbs_natCast,Int.natAbs_natCast] at kn
 have d1:D ∣ D':=(Nat.Coprime.symm c1).dvd_of_dvd_mul_left (by rw [kn]; exact Nat.dvd_mul_left _ _)
 have d2:D' ∣ D:=(Nat.Coprime.symm c2).dvd_of_dvd_mul_left (by rw [<- kn]; exact Nat.dvd_mul_left _ _)
 have eD:D = D':=Nat.dvd_antisymm d1 d2
 subst eD
 exact ⟨Int.eq_of_mul_eq_mul_right (show (D:Int) ≠ 0 by omega) key,rfl⟩
theorem same_rs {v v':Value} {A:Int} {S:Nat} (w:World) (h:RS w v A S) (h':RS w v' A S) (hS:0 < S):Calls Tryz.prog 16 #[v,v'] w fun e w' => Kept w w'/\e = .returned (.bool true):=by
 obtain ⟨s,ao,ap,k,c,k',c',l,l',rfl,n1,n2,r,e1⟩:=h
 obtain ⟨s',ao',ap',k1,c1,k1',c1',l1,l1',rfl,n1',n2',r',e2⟩:=h'
 obtain ⟨x1,x2⟩:=low_one hS r.vpos (by rw [M.natAbs_int]; exact r.low) (by rw [M.natAbs_int]; exact r'.low) e1 e2
 obtain ⟨rfl,rfl⟩:=M.int_inj (r.ra.right n1.1) (r'.ra.right n1'.1) x1
 obtain ⟨_,rfl⟩:=M.int_inj (r.rd.right n2.1) (r'.rd.right n2'.1) (by simp [M.int,x2])
 refine (F.same_r s false _ _ _ _ l l' w n1 n2 n1' n2' (by have:=r.ra.1; omega) (by have:=r.rd.1; omega)).mono ?_
 rintro e w' ⟨rfl,hk⟩
 exact ⟨hk,rfl⟩
end V
end Go.Proofs.YthfbfbfambbkaaaGreatDoor
