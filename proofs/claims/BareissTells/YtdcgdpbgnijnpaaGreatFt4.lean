/- shuntref14.next. -/
import Derived.Test.YtdcgdpbgnijnpaaGreatGaz
import Derived.Test.YtdcgdpbgnijnpaaGreatGal
import Derived.Test.YtdcgdpbgnijnpaaGreatGam
import Derived.Test.YtdcgdpbgnijnpaaGreatGak
namespace Go.Proofs.YtdcgdpbgnijnpaaGreat
open Go.RowKit
open V (RowL RowL.alloc RowL.lt RowL.cell RowL.fz RowL.kept RowL.block RowL.set RowL.far)
open Sp (hid own_kept own_keptK own_row own_shape info_parts)
open Sy (alloc_sz)
open X (zk zr zl zd region_z anyZ_ready AllZ AllZ.cons AllZ.nil)
namespace Bp
def nxF (M:Nat→Nat→Int) (L:Nat→Bool) (r c:Nat) (q:Int) (i k:Nat):Int:=if L i then Int.tdiv (M r c * M i k - M i c * M r k) q else M i k
set_option maxRecDepth 100000 in
set_option maxHeartbeats 20000000 in
theorem next14_any (A:Nat→Prop) (so ro qo:Option Addr) (n sc rc qk qc K r c:Nat) (qs:Bool) (q:Int) (M:Nat→Nat→Int) (L:Nat→Bool) (w:World) (hA:∀ q,A q→q < w.heap.size) (h:MNA A K n M w (.slice so n sc) n) (hr:BLs w ro n L) (hq:D.NIs w qs (.slice qo qk qc) q) (hqk:qk≤60000) (hq0:q ≠ 0) (hrn:r < n) (hcn:c < n) (hn:n≤1000) (hK:K≤20000) (hs:∀ i,i < n→∀ k,k < n→(nxF M L r c q i k).natAbs < 65536 ^ K) :
  Calls Tryz.prog 30 #[.slice so n sc,.slice ro n rc,.int .i64 (r:Int),.int .i64 (c:Int),.agg #[.bool qs,.slice qo qk qc]] w fun e w' => Kept w w'∧∃ ao cap,e = .returned (.slice ao n cap)∧MNA A K n (nxF M L r c q) w' (.slice ao n cap) n:=by
 have HM:=hid (And.intro h (And.intro hr hq))
 have HS:=hid hs
 have HA:=hid hA
 clear h hr hq hs hA
 obtain ⟨i0,hi0,hz0,hz1,hz2⟩:=info_parts info_rns
 obtain ⟨i1,hi1,hy0,hy1,hy2⟩:=info_parts info_rn
 have rQ:=RowL.alloc 51 w [.bool qs,.slice qo qk qc]
 have kQ:=(Kept.refl w).alloc (.cells #[.bool qs,.slice qo qk qc] 51)
 obtain ⟨pq,hpq⟩:∃ p,p = w.heap.size:=⟨_,rfl⟩
 rw [← hpq] at rQ
 go_enter Tryz.func30,Tryz.ntmps30
 go_wp2_with fail
 rw [← hpq]
 clear hpq
 change RowL 51 (w.alloc (.cells #[.bool qs,.slice qo qk qc] 51)) pq _ at rQ
 generalize w.alloc (.cells #[.bool qs,.slice qo qk qc] 51) = W0 at rQ kQ ⊢
 have HQ:=hid (And.intro kQ (show RowL 51 W0 pq [.bool qs,.slice qo qk qc] from rQ))
 clear rQ kQ
 go_loopw [11,12] (fun v11 v12 wr => ∃ i:Nat,i≤n∧v12 = .int .i64 (i:Int)∧Hid (Kept W0 wr∧MOA A W0.heap.size K n (nxF M L r c q) wr v11 i)) (fun _ v12 _ => n - (intOf v12).toNat)
 case atStart => exact ⟨0,Nat.zero_le _,rfl,Kept.refl _,MOA.nil _ _ _ _ _ _⟩
 case round =>
  obtain ⟨i,hi,rfl,H⟩:=hrel
  generalize wr = w1 at H ⊢
  by_cases hit:i < n
  ·
   have hii:(i:Int) < (n:Int):=by omega
   have hi0':(0:Int)≤(i:Int):=by omega
   obtain ⟨mb,mf,ra,rcp,rfl,hmb,hmc,hrd⟩:=HM.out.1.at hit
   obtain ⟨b1,o1,rfl,hb1,hr1⟩:=HM.out.2.1 (by omega)
   have x0:=hmc w1 (KX.of (HQ.out.1.trans H.out.1))
   have x1:=(Below.cell (HQ.out.1.trans H.out.1) (p:=⟨b1,o1 + i,none⟩) hb1).trans (hr1 i hit)
   cases hL:L i with
   | false =>
    rw [hL] at x1
    have HR:=hid (show RdX (fun q => A q ∨ Value.ownBlock u11 = some q) K (nxF M L r c q i) w1 (.slice ra n rcp) n from by
     refine ((hrd.add.kept (HQ.out.1.trans H.out.1)).mono (fun g9 hg9 => hg9.elim Or.inl fun h9 => Or.inr (by
      obtain ⟨hs,ho,_⟩:=H.out.2
      exact Nat.le_trans HQ.out.1.size (World.ownsRow.lt ho g9 h9).1)) (Nat.le_refl _)).congr fun k hk => ?_
     ·
      unfold nxF
      rw [hL]
      rfl)
    obtain ⟨gs,ho,hv1,hx⟩:=H.out.2
    have HO:=hid (And.intro ho hx)
    have HV:=hid hv1
    clear hmc hrd hr1 ho hx hv1
    have hws:W0.heap.size≤w1.heap.size:=H.out.1.size
    --%A
    go_wp2_with (at_builtin; refine wpList_append_lies _ rfl (.tmp 29) (.tmp 34) 45 rfl W0.heap.size 52 i0 (.slice none 0 0) 1 24 und_rnss hi0 hz0 hz1 hz2 rfl (by decide) u11 i gs rfl (by exact World.ownsRow.alloc HO.out.1 _) ⟨w1.heap.size,0,none⟩ 1 1 [.slice ra n rcp] rfl rfl (cell1 w1 _ _) (fun u hu => by simp at hu; rcases hu with rfl; rfl) (by omega) (by unfold maxLen; omega) (by omega) (by simp; omega) _ rfl ?_)
    intro G cap2 w7 hO hgr hG _
    have kA:=(Kept.refl w1).alloc (.cells #[.slice ra n rcp] 52)
    have hOw:=World.ownsRow.alloc HO.out.1 (.cells #[.slice ra n rcp] 52)
    have hG:u11.ownBlock = some G ∨ G = (w1.alloc (.cells #[.slice ra n rcp] 52)).heap.size:=hG.imp id fun e => by rw [alloc_sz]; exact e
    generalize w1.alloc (.cells #[.slice ra n rcp] 52) = W5 at kA hgr hOw hG
    have KW:Kept W0 w7:=Below.grown (H.out.1.trans kA) hgr (H.out.1.trans kA).size (fun q hq => (World.ownsRow.lt hOw q hq).1)
    have HNn:=hid (And.intro KW (MOA.snoc (A:=A) (F:=nxF M L r c q) (fun q hq => Nat.lt_of_lt_of_le (HA.out q hq) (HQ.out.1.trans (H.out.1.trans kA)).size) gs (by have:=HO.out.1.1; omega) HV.out (fun j hj => by
     obtain ⟨ra,rc,e1,e2⟩:=HO.out.2 j hj
     exact ⟨ra,rc,e1,e2.kept kA⟩) (HR.out.kept kA) hO hgr hG))
    clear kA hOw hgr hO KW hG
    --%B
    go_wp2_with fail
    go_roundw
    case rel => exact ⟨i + 1,by omega,by go_num,HNn.out⟩
    case measure => show n - ((i:Int) + 1).toNat < n - (i:Int).toNat; omega
   | true =>
    rw [hL] at x1
    obtain ⟨mb',mf',rar,rcr,er,hmb',hmcr,hrdr⟩:=HM.out.1.at hrn
    cases er
    have HC:=hid (And.intro hmc (And.intro hrd (And.intro hmcr (And.intro hrdr hL))))
    clear hmc hrd hr1 hmcr hrdr hmb'
    have hr0:(0:Int)≤(r:Int):=by omega
    have hr1:(r:Int) < (n:Int):=by omega
    have hc0:(0:Int)≤(c:Int):=by omega
    have hc1:(c:Int) < (n:Int):=by omega
    --%C
    go_wp2_with fail
    clear x0 x1
    go_loopw [13,14] (fun v13 v14 wr => ∃ k:Nat,k≤n∧v14 = .int .i64 (k:Int)∧Hid (Kept w1 wr∧NO (fun q => A q ∨ Value.ownBlock u11 = some q) w1.heap.size K (nxF M L r c q i) wr v13 k)) (fun _ v14 _ => n - (intOf v14).toNat)
    case atStart => exact ⟨0,Nat.zero_le _,rfl,Kept.refl _,NO.nil _ _ _ _ _⟩
    case round =>
     obtain ⟨k,hk,rfl,J⟩:=hrel
     generalize wr = w2 at J ⊢
     have KW:=HQ.out.1.trans (H.out.1.trans J.out.1)
     have x0:=HC.out.1 w2 (KX.of KW)
     by_cases hkt:k < n
     ·
      have hkk:(k:Int) < (n:Int):=by omega
      have hk0:(0:Int)≤(k:Int):=by omega
      obtain ⟨bA,fA,sA,oA,kA,cA,eA,_,_,hcA,hdA,hlA⟩:=HC.out.2.2.2.1.at hcn
      obtain ⟨bB,fB,sB,oB,kB,cB,eB,_,_,hcB,hdB,hlB⟩:=HC.out.2.1.at hkt
      obtain ⟨bC,fC,sC,oC,kC,cC,eC,_,_,hcC,hdC,hlC⟩:=HC.out.2.1.at hcn
      obtain ⟨bD,fD,sD,oD,kD,cD,eD,_,_,hcD,hdD,hlD⟩:=HC.out.2.2.2.1.at hkt
      rw [eB] at eC
      injection eC with eC
      injection eC with eC1 eC2
      subst eC1
      subst eC2
      rw [eA] at eD
      injection eD with eD
      injection eD with eD1 eD2
      subst eD1
      subst eD2
      subst eA
      subst eB
      have HX:=hid (And.intro hdA.1 (And.intro hdB.1 (And.intro hdC.1 hdD.1)))
      have sS:=hid (fun (V:World) (Kw:Kept w V) => show (fun w':World => w'.cell? ⟨mb,mf + r,none⟩ = some (.slice (some ⟨bA,fA,none⟩) n rcr)∧w'.cell? ⟨mb,mf + i,none⟩ = some (.slice (some ⟨bB,fB,none⟩) n rcp)∧w'.cell? ⟨bA,fA + c * 2,none⟩ = some (.bool sA)∧w'.cell? ⟨bA,fA + c * 2 + 1,none⟩ = some (.slice oA kA cA)∧w'.cell? ⟨bB,fB + k * 2,none⟩ = some (.bool sB)∧w'.cell? ⟨bB,fB + k * 2 + 1,none⟩ = some (.slice oB kB cB)∧w'.cell? ⟨bB,fB + c * 2,none⟩ = some (.bool sC)∧w'.cell? ⟨bB,fB + c * 2 + 1,none⟩ = some (.slice oC kC cC)∧w'.cell? ⟨bA,fA + k * 2,none⟩ = some (.bool sD)∧w'.cell? ⟨bA,fA + k * 2 + 1,none⟩ = some (.slice oD kD cD)) V from ⟨HC.out.2.2.1 V (KX.of Kw),HC.out.1 V (KX.of Kw),(hcA V (KX.of Kw)).1,(hcA V (KX.of Kw)).2,(hcB V (KX.of Kw)).1,(hcB V (KX.of Kw)).2,(hcC V (KX.of Kw)).1,(hcC V (KX.of Kw)).2,(hcD V (KX.of Kw)).1,(hcD V (KX.of Kw)).2⟩)
      have KT:Kept w2 w2.drew:=(Kept.refl _).drew
      have HKW:=hid KW
      clear hcA hcB hcC hcD hdA hdB hdC hdD KW
      --%D
      go_upto_region 11 with fail
      clear x0
      refine region_z 32 (S:=fun w' => w'.cell? ⟨mb,mf + r,none⟩ = some (.slice (some ⟨bA,fA,none⟩) n rcr)∧w'.cell? ⟨mb,mf + i,none⟩ = some (.slice (some ⟨bB,fB,none⟩) n rcp)∧w'.cell? ⟨bA,fA + c * 2,none⟩ = some (.bool sA)∧w'.cell? ⟨bA,fA + c * 2 + 1,none⟩ = some (.slice oA kA cA)∧w'.cell? ⟨bB,fB + k * 2,none⟩ = some (.bool sB)∧w'.cell? ⟨bB,fB + k * 2 + 1,none⟩ = some (.slice oB kB cB)∧w'.cell? ⟨bB,fB + c * 2,none⟩ = some (.bool sC)∧w'.cell? ⟨bB,fB + c * 2 + 1,none⟩ = some (.slice oC kC cC)∧w'.cell? ⟨bA,fA + k * 2,none⟩ = some (.bool sD)∧w'.cell? ⟨bA,fA + k * 2 + 1,none⟩ = some (.slice oD kD cD)) (by kernel_rfl) (sS.out _ (HKW.out.trans KT)) (fun hHeld => ?_)
      generalize hwd:w2.drew = V0 at KT hHeld ⊢
      clear hwd
      have G0:=hid (And.intro KT True.intro)
      clear KT
      refine zk 0 hHeld ?_
      refine zk 1 hHeld ?_
      refine zk 2 hHeld ?_
      refine zk 3 hHeld ?_
      refine zk 4 hHeld ?_
      refine zk 5 hHeld ?_
      refine zk 6 hHeld ?_
      refine zk 7 hHeld ?_
      refine zk 8 hHeld ?_
      refine zk 9 hHeld ?_
      refine zk 10 hHeld ?_
      refine zk 11 hHeld ?_
      refine zk 12 hHeld ?_
      refine zk 13 hHeld ?_
      refine zk 15 hHeld ?_
      refine zk 16 hHeld ?_
      refine zk 17 hHeld ?_
      refine zk 18 hHeld ?_
      refine zk 19 hHeld ?_
      refine zk 20 hHeld ?_
      refine zk 21 hHeld ?_
      refine zk 22 hHeld ?_
      refine zk 23 hHeld ?_
      refine zk 24 hHeld ?_
      refine zk 25 hHeld ?_
      refine zk 26 hHeld ?_
      refine zk 27 hHeld ?_
      refine zk 28 hHeld ?_
      refine anyZ_ready (rs:=[14,31]) (by kernel_rfl) (by simp) ?_
      refine AllZ.cons rfl (fun K9 hK => ?_) (AllZ.cons rfl (fun K9 hK => ?_) AllZ.nil)
      ·
       refine ite_want (by kernel_rfl) ?_
       go_simp
       refine (D.Times_any sA sB oA oB kA kB cA cB _ _ V0 (HX.out.1.kept (HKW.out.trans (G0.out.1))) (HX.out.2.1.kept (HKW.out.trans (G0.out.1))) (by omega) (by omega)).mono ?_
       rintro e V1 ⟨hk1,s14,o14,k14,c14,rfl,hz1,hl14⟩
       have H1:=hid (And.intro ((G0.out.1).trans hk1) (hz1))
       refine hK.out _ _ (sS.out _ (HKW.out.trans H1.out.1)) (fun hHeld => ?_)
       have T1:=hid hk1
       clear hK hk1 hz1
       refine anyZ_ready (rs:=[29,31]) (by kernel_rfl) (by simp) ?_
       refine AllZ.cons rfl (fun K9 hK => ?_) (AllZ.cons rfl (fun K9 hK => ?_) AllZ.nil)
       ·
        refine ite_want (by kernel_rfl) ?_
        go_simp
        refine (D.Times_any sC sD oC oD kC kD cC cD _ _ V1 (HX.out.2.2.1.kept (HKW.out.trans (H1.out.1))) (HX.out.2.2.2.kept (HKW.out.trans (H1.out.1))) (by omega) (by omega)).mono ?_
        rintro e V2 ⟨hk2,s29,o29,k29,c29,rfl,hz2,hl29⟩
        have H2:=hid (And.intro ((H1.out.1).trans hk2) (hz2))
        refine hK.out _ _ (sS.out _ (HKW.out.trans H2.out.1)) (fun hHeld => ?_)
        have T2:=hid hk2
        clear hK hk2 hz2
        refine anyZ_ready (rs:=[30,31]) (by kernel_rfl) (by simp) ?_
        refine AllZ.cons rfl (fun K9 hK => ?_) (AllZ.cons rfl (fun K9 hK => ?_) AllZ.nil)
        ·
         refine ite_want (by kernel_rfl) ?_
         go_simp
         refine (D.Less_any s14 s29 o14 o29 k14 k29 c14 c29 _ _ V2 ((H1.out.2).kept T2.out) (H2.out.2) (by omega) (by omega)).mono ?_
         rintro e V3 ⟨hk3,s30,o30,k30,c30,rfl,hz3,hl30⟩
         have H3:=hid (And.intro ((H2.out.1).trans hk3) (hz3))
         refine hK.out _ _ (sS.out _ (HKW.out.trans H3.out.1)) (fun hHeld => ?_)
         have T3:=hid hk3
         clear hK hk3 hz3
         refine zr 31 fun K9 hK => ?_
         have hr4:=RowL.alloc 51 V3 [.bool false,.slice none 0 0]
         have hk4:=(Kept.refl V3).alloc (.cells #[.bool false,.slice none 0 0] 51)
         go_simp
         obtain ⟨pV,hpV⟩:∃ p,p = V3.heap.size:=⟨_,rfl⟩
         rw [← hpV] at hr4 ⊢
         have HP:=hid (show w2.heap.size≤pV by rw [hpV]; exact (H3.out.1).size)
         clear hpV
         change RowL 51 (V3.alloc (.cells #[.bool false,.slice none 0 0] 51)) pV _ at hr4
         generalize V3.alloc (.cells #[.bool false,.slice none 0 0] 51) = V4 at hr4 hk4 ⊢
         have H4:=hid (And.intro ((H3.out.1).trans hk4) (show RowL 51 V4 pV [.bool false,.slice none 0 0] from hr4))
         refine hK.out _ _ (sS.out _ (HKW.out.trans H4.out.1)) (fun hHeld => ?_)
         have T4:=hid hk4
         clear hK hk4 hr4
         have hrS:=H4.out.2
         have x0:=hrS.cell 0 _ rfl
         have x1:=hrS.cell 1 _ rfl
         have f0:=hrS.fz 0
         have f1:=hrS.fz 1
         have kx:KX (fun q => q = pV) V4 ((V4.setCell ⟨pV,0,none⟩ (.bool s30)).setCell ⟨pV,1,none⟩ (.slice o30 k30 c30)):=((KX.refl V4).setCell (T:=fun q => q = pV) (p:=⟨pV,0,none⟩) (.inl rfl) _).setCell (p:=⟨pV,1,none⟩) (.inl rfl) _
         have HF:=hid (And.intro (KX.kept (H4.out.1) kx (fun q hq => by rw [hq]; exact HP.out)) (And.intro (show RowL 51 _ pV [.bool s30,.slice o30 k30 c30] from (hrS.set 0 (.bool s30)).set 1 (.slice o30 k30 c30)) (nis_far hrS ((H3.out.2).kept T4.out) kx)))
         clear kx hrS
         refine zl fun K9 hK => ?_
         go_simp
         refine hK.out _ _ ?_
         clear hK x0 x1 f0 f1 hHeld
         refine zd ?_
         generalize (V4.setCell ⟨pV,0,none⟩ (.bool s30)).setCell ⟨pV,1,none⟩ (.slice o30 k30 c30) = w6 at HF ⊢
         have d0:=HF.out.2.1.cell 0 _ rfl
         have d1:=HF.out.2.1.cell 1 _ rfl
         have hrq:=HQ.out.2.kept (H.out.1.trans (J.out.1.trans HF.out.1))
         have e0:=hrq.cell 0 _ rfl
         have e1:=hrq.cell 1 _ rfl
         clear hrq
         have htk:=D.Divide_new s30 qs o30 qo k30 qk c30 qc _ q w6 HF.out.2.2 (HM.out.2.2.kept (HKW.out.trans HF.out.1)) (by omega) hqk hq0
         --%E
         go_wp2_with fail
         refine htk.mono ?_
         rintro e w7 ⟨hk,sq,aq,kq,cq,t,ar,kr,cr,rfl,hnq,hnr,hkk,hkr,hnw⟩
         have ez:nxF M L r c q i k = Int.tdiv (M r c * M i k - M i c * M r k) q:=by
          unfold nxF
          rw [if_pos HC.out.2.2.2.2]
         have hkK:kq≤K:=nis_len hnq (by rw [← ez]; exact HS.out i hit k hkt)
         obtain ⟨xs,ho,hA,hx⟩:=J.out.2
         have hlt11:∀ g,(A g ∨ Value.ownBlock u11 = some g)→g < w1.heap.size:=fun g hg => by
          rcases hg with hg | hg
          ·
           exact Nat.lt_of_lt_of_le (HA.out g hg) (HQ.out.1.trans H.out.1).size
          obtain ⟨_,ho1,_⟩:=H.out.2
          exact (World.ownsRow.lt ho1 g hg).2
         have K27:Kept w2 w7:=HF.out.1.trans hk
         have hd:DX (fun g => (A g ∨ Value.ownBlock u11 = some g) ∨ Value.ownBlock u13 = some g) K w7 sq (.slice aq kq cq) (nxF M L r c q i k):=by
          rw [ez]
          refine dx_new hnq hkK hnw (fun g hg => ?_)
          have h1:=HF.out.1.size
          have h2:=J.out.1.size
          rcases hg with hg | hg
          ·
           have:=hlt11 g hg
           omega
          ·
           have:=(World.ownsRow.lt ho g hg).2
           omega
         have rB:=RowL.alloc 51 w7 [.bool sq,.slice aq kq cq]
         have kB1:=(Kept.refl w7).alloc (.cells #[.bool sq,.slice aq kq cq] 51)
         have kB2:=(Kept.refl (w7.alloc (.cells #[.bool sq,.slice aq kq cq] 51))).alloc (.cells #[.bool t,.slice ar kr cr] 51)
         have rB:=rB.kept kB2
         have kB:=kB1.trans kB2
         clear kB1 kB2 d0 d1 e0 e1 htk hnq hnr
         --%F
         go_upto_region 13 with fail
         obtain ⟨pB,hpB⟩:∃ p,p = w7.heap.size:=⟨_,rfl⟩
         rw [← hpB] at rB ⊢
         clear hpB
         generalize (w7.alloc (.cells #[.bool sq,.slice aq kq cq] 51)).alloc (.cells #[.bool t,.slice ar kr cr] 51) = w8 at rB kB ⊢
         have g0:=rB.cell 0 _ rfl
         have g1:=rB.cell 1 _ rfl
         have K28:=K27.trans kB
         have H4:=hid (And.intro K28 (And.intro (own_keptK ho K28) (And.intro hA (And.intro (fun j (hj:j < k) => by
          obtain ⟨s,ao,m,cap,e1,e2,e3⟩:=hx j hj
          exact (⟨s,ao,m,cap,e1,e2,e3.kept K28⟩:∃ s ao m cap,xs[j * 2]? = some (.bool s)∧xs[j * 2 + 1]? = some (.slice ao m cap)∧DX (fun g => (A g ∨ Value.ownBlock u11 = some g) ∨ Value.ownBlock u13 = some g) K w8 s (.slice ao m cap) (nxF M L r c q i j))) (hd.kept kB)))))
         have hws:w1.heap.size≤w8.heap.size:=(J.out.1.trans K28).size
         have HL11:=hid hlt11
         clear ho hA hx hd rB kB K27 K28 hk hnw hlt11 ez
         --%G
         go_wp2_with (at_builtin; refine wpList_append_lies _ rfl (.tmp 82) (.tmp 84) 52 rfl w1.heap.size 51 i1 (.agg #[.bool false,.slice none 0 0]) 2 32 und_rns hi1 hy0 hy1 hy2 rfl (by decide) u13 k xs rfl (by exact World.ownsRow.alloc H4.out.2.1 _) ⟨w8.heap.size,0,none⟩ 1 1 [.bool sq,.slice aq kq cq] rfl rfl (cell2 w8 _ _ _) (fun u hu => by simp at hu; rcases hu with rfl | rfl <;> rfl) (by omega) (by unfold maxLen; omega) (by omega) (by simp; omega) _ rfl ?_)
         intro G cap2 w9 hO hgr hG _
         have kA:=(Kept.refl w8).alloc (.cells #[.bool sq,.slice aq kq cq] 51)
         have hOw:=World.ownsRow.alloc H4.out.2.1 (.cells #[.bool sq,.slice aq kq cq] 51)
         have hG:u13.ownBlock = some G ∨ G = (w8.alloc (.cells #[.bool sq,.slice aq kq cq] 51)).heap.size:=hG.imp id fun e => by rw [alloc_sz]; exact e
         generalize w8.alloc (.cells #[.bool sq,.slice aq kq cq] 51) = W5 at kA hgr hOw hG
         have KW:Kept w1 w9:=Below.grown ((J.out.1.trans H4.out.1).trans kA) hgr ((J.out.1.trans H4.out.1).trans kA).size (fun g hg => (World.ownsRow.lt hOw g hg).1)
         have HNn:=hid (And.intro KW (NO.snoc (A:=fun g => A g ∨ Value.ownBlock u11 = some g) (zs:=nxF M L r c q i) (fun g hg => by have:=HL11.out g hg; have:=((J.out.1.trans H4.out.1).trans kA).size; omega) xs H4.out.2.1.1 H4.out.2.2.1 (fun j hj => by
          obtain ⟨s,ao,m,cap,e1,e2,e3⟩:=H4.out.2.2.2.1 j hj
          exact ⟨s,ao,m,cap,e1,e2,e3.kept kA⟩) (H4.out.2.2.2.2.kept kA) hO hgr hG))
         clear kA hOw hgr hO KW hG g0 g1
         --%H
         go_wp2_with fail
         go_roundw
         case rel => exact ⟨k + 1,by omega,by go_num,HNn.out⟩
         case measure => show n - ((k:Int) + 1).toNat < n - (k:Int).toNat; omega
        ·
         refine ite_want (by kernel_rfl) ?_
         have hr3:=RowL.alloc 51 V2 [.bool false,.slice none 0 0]
         have hk3:=(Kept.refl V2).alloc (.cells #[.bool false,.slice none 0 0] 51)
         go_simp
         obtain ⟨pV,hpV⟩:∃ p,p = V2.heap.size:=⟨_,rfl⟩
         rw [← hpV] at hr3 ⊢
         have HP:=hid (show w2.heap.size≤pV by rw [hpV]; exact (H2.out.1).size)
         clear hpV
         change RowL 51 (V2.alloc (.cells #[.bool false,.slice none 0 0] 51)) pV _ at hr3
         generalize V2.alloc (.cells #[.bool false,.slice none 0 0] 51) = V3 at hr3 hk3 ⊢
         have H3:=hid (And.intro ((H2.out.1).trans hk3) (show RowL 51 V3 pV [.bool false,.slice none 0 0] from hr3))
         refine hK.out _ _ (sS.out _ (HKW.out.trans H3.out.1)) (fun hHeld => ?_)
         have T3:=hid hk3
         clear hK hk3 hr3
         refine zr 30 fun K9 hK => ?_
         go_simp
         refine (D.Less_any s14 s29 o14 o29 k14 k29 c14 c29 _ _ V3 (((H1.out.2).kept T2.out).kept T3.out) ((H2.out.2).kept T3.out) (by omega) (by omega)).mono ?_
         rintro e V4 ⟨hk4,s30,o30,k30,c30,rfl,hz4,hl30⟩
         have H4:=hid (And.intro ((H3.out.1).trans hk4) (hz4))
         refine hK.out _ _ (sS.out _ (HKW.out.trans H4.out.1)) (fun hHeld => ?_)
         have T4:=hid hk4
         clear hK hk4 hz4
         have hrS:=(H3.out.2).kept T4.out
         have x0:=hrS.cell 0 _ rfl
         have x1:=hrS.cell 1 _ rfl
         have f0:=hrS.fz 0
         have f1:=hrS.fz 1
         have kx:KX (fun q => q = pV) V4 ((V4.setCell ⟨pV,0,none⟩ (.bool s30)).setCell ⟨pV,1,none⟩ (.slice o30 k30 c30)):=((KX.refl V4).setCell (T:=fun q => q = pV) (p:=⟨pV,0,none⟩) (.inl rfl) _).setCell (p:=⟨pV,1,none⟩) (.inl rfl) _
         have HF:=hid (And.intro (KX.kept (H4.out.1) kx (fun q hq => by rw [hq]; exact HP.out)) (And.intro (show RowL 51 _ pV [.bool s30,.slice o30 k30 c30] from (hrS.set 0 (.bool s30)).set 1 (.slice o30 k30 c30)) (nis_far hrS (H4.out.2) kx)))
         clear kx hrS
         refine zl fun K9 hK => ?_
         go_simp
         refine hK.out _ _ ?_
         clear hK x0 x1 f0 f1 hHeld
         refine zd ?_
         generalize (V4.setCell ⟨pV,0,none⟩ (.bool s30)).setCell ⟨pV,1,none⟩ (.slice o30 k30 c30) = w6 at HF ⊢
         have d0:=HF.out.2.1.cell 0 _ rfl
         have d1:=HF.out.2.1.cell 1 _ rfl
         have hrq:=HQ.out.2.kept (H.out.1.trans (J.out.1.trans HF.out.1))
         have e0:=hrq.cell 0 _ rfl
         have e1:=hrq.cell 1 _ rfl
         clear hrq
         have htk:=D.Divide_new s30 qs o30 qo k30 qk c30 qc _ q w6 HF.out.2.2 (HM.out.2.2.kept (HKW.out.trans HF.out.1)) (by omega) hqk hq0
         --%E
         go_wp2_with fail
         refine htk.mono ?_
         rintro e w7 ⟨hk,sq,aq,kq,cq,t,ar,kr,cr,rfl,hnq,hnr,hkk,hkr,hnw⟩
         have ez:nxF M L r c q i k = Int.tdiv (M r c * M i k - M i c * M r k) q:=by
          unfold nxF
          rw [if_pos HC.out.2.2.2.2]
         have hkK:kq≤K:=nis_len hnq (by rw [← ez]; exact HS.out i hit k hkt)
         obtain ⟨xs,ho,hA,hx⟩:=J.out.2
         have hlt11:∀ g,(A g ∨ Value.ownBlock u11 = some g)→g < w1.heap.size:=fun g hg => by
          rcases hg with hg | hg
          ·
           exact Nat.lt_of_lt_of_le (HA.out g hg) (HQ.out.1.trans H.out.1).size
          obtain ⟨_,ho1,_⟩:=H.out.2
          exact (World.ownsRow.lt ho1 g hg).2
         have K27:Kept w2 w7:=HF.out.1.trans hk
         have hd:DX (fun g => (A g ∨ Value.ownBlock u11 = some g) ∨ Value.ownBlock u13 = some g) K w7 sq (.slice aq kq cq) (nxF M L r c q i k):=by
          rw [ez]
          refine dx_new hnq hkK hnw (fun g hg => ?_)
          have h1:=HF.out.1.size
          have h2:=J.out.1.size
          rcases hg with hg | hg
          ·
           have:=hlt11 g hg
           omega
          ·
           have:=(World.ownsRow.lt ho g hg).2
           omega
         have rB:=RowL.alloc 51 w7 [.bool sq,.slice aq kq cq]
         have kB1:=(Kept.refl w7).alloc (.cells #[.bool sq,.slice aq kq cq] 51)
         have kB2:=(Kept.refl (w7.alloc (.cells #[.bool sq,.slice aq kq cq] 51))).alloc (.cells #[.bool t,.slice ar kr cr] 51)
         have rB:=rB.kept kB2
         have kB:=kB1.trans kB2
         clear kB1 kB2 d0 d1 e0 e1 htk hnq hnr
         --%F
         go_upto_region 13 with fail
         obtain ⟨pB,hpB⟩:∃ p,p = w7.heap.size:=⟨_,rfl⟩
         rw [← hpB] at rB ⊢
         clear hpB
         generalize (w7.alloc (.cells #[.bool sq,.slice aq kq cq] 51)).alloc (.cells #[.bool t,.slice ar kr cr] 51) = w8 at rB kB ⊢
         have g0:=rB.cell 0 _ rfl
         have g1:=rB.cell 1 _ rfl
         have K28:=K27.trans kB
         have H4:=hid (And.intro K28 (And.intro (own_keptK ho K28) (And.intro hA (And.intro (fun j (hj:j < k) => by
          obtain ⟨s,ao,m,cap,e1,e2,e3⟩:=hx j hj
          exact (⟨s,ao,m,cap,e1,e2,e3.kept K28⟩:∃ s ao m cap,xs[j * 2]? = some (.bool s)∧xs[j * 2 + 1]? = some (.slice ao m cap)∧DX (fun g => (A g ∨ Value.ownBlock u11 = some g) ∨ Value.ownBlock u13 = some g) K w8 s (.slice ao m cap) (nxF M L r c q i j))) (hd.kept kB)))))
         have hws:w1.heap.size≤w8.heap.size:=(J.out.1.trans K28).size
         have HL11:=hid hlt11
         clear ho hA hx hd rB kB K27 K28 hk hnw hlt11 ez
         --%G
         go_wp2_with (at_builtin; refine wpList_append_lies _ rfl (.tmp 82) (.tmp 84) 52 rfl w1.heap.size 51 i1 (.agg #[.bool false,.slice none 0 0]) 2 32 und_rns hi1 hy0 hy1 hy2 rfl (by decide) u13 k xs rfl (by exact World.ownsRow.alloc H4.out.2.1 _) ⟨w8.heap.size,0,none⟩ 1 1 [.bool sq,.slice aq kq cq] rfl rfl (cell2 w8 _ _ _) (fun u hu => by simp at hu; rcases hu with rfl | rfl <;> rfl) (by omega) (by unfold maxLen; omega) (by omega) (by simp; omega) _ rfl ?_)
         intro G cap2 w9 hO hgr hG _
         have kA:=(Kept.refl w8).alloc (.cells #[.bool sq,.slice aq kq cq] 51)
         have hOw:=World.ownsRow.alloc H4.out.2.1 (.cells #[.bool sq,.slice aq kq cq] 51)
         have hG:u13.ownBlock = some G ∨ G = (w8.alloc (.cells #[.bool sq,.slice aq kq cq] 51)).heap.size:=hG.imp id fun e => by rw [alloc_sz]; exact e
         generalize w8.alloc (.cells #[.bool sq,.slice aq kq cq] 51) = W5 at kA hgr hOw hG
         have KW:Kept w1 w9:=Below.grown ((J.out.1.trans H4.out.1).trans kA) hgr ((J.out.1.trans H4.out.1).trans kA).size (fun g hg => (World.ownsRow.lt hOw g hg).1)
         have HNn:=hid (And.intro KW (NO.snoc (A:=fun g => A g ∨ Value.ownBlock u11 = some g) (zs:=nxF M L r c q i) (fun g hg => by have:=HL11.out g hg; have:=((J.out.1.trans H4.out.1).trans kA).size; omega) xs H4.out.2.1.1 H4.out.2.2.1 (fun j hj => by
          obtain ⟨s,ao,m,cap,e1,e2,e3⟩:=H4.out.2.2.2.1 j hj
          exact ⟨s,ao,m,cap,e1,e2,e3.kept kA⟩) (H4.out.2.2.2.2.kept kA) hO hgr hG))
         clear kA hOw hgr hO KW hG g0 g1
         --%H
         go_wp2_with fail
         go_roundw
         case rel => exact ⟨k + 1,by omega,by go_num,HNn.out⟩
         case measure => show n - ((k:Int) + 1).toNat < n - (k:Int).toNat; omega
       ·
        refine ite_want (by kernel_rfl) ?_
        have hr2:=RowL.alloc 51 V1 [.bool false,.slice none 0 0]
        have hk2:=(Kept.refl V1).alloc (.cells #[.bool false,.slice none 0 0] 51)
        go_simp
        obtain ⟨pV,hpV⟩:∃ p,p = V1.heap.size:=⟨_,rfl⟩
        rw [← hpV] at hr2 ⊢
        have HP:=hid (show w2.heap.size≤pV by rw [hpV]; exact (H1.out.1).size)
        clear hpV
        change RowL 51 (V1.alloc (.cells #[.bool false,.slice none 0 0] 51)) pV _ at hr2
        generalize V1.alloc (.cells #[.bool false,.slice none 0 0] 51) = V2 at hr2 hk2 ⊢
        have H2:=hid (And.intro ((H1.out.1).trans hk2) (show RowL 51 V2 pV [.bool false,.slice none 0 0] from hr2))
        refine hK.out _ _ (sS.out _ (HKW.out.trans H2.out.1)) (fun hHeld => ?_)
        have T2:=hid hk2
        clear hK hk2 hr2
        refine zr 29 fun K9 hK => ?_
        go_simp
        refine (D.Times_any sC sD oC oD kC kD cC cD _ _ V2 (HX.out.2.2.1.kept (HKW.out.trans (H2.out.1))) (HX.out.2.2.2.kept (HKW.out.trans (H2.out.1))) (by omega) (by omega)).mono ?_
        rintro e V3 ⟨hk3,s29,o29,k29,c29,rfl,hz3,hl29⟩
        have H3:=hid (And.intro ((H2.out.1).trans hk3) (hz3))
        refine hK.out _ _ (sS.out _ (HKW.out.trans H3.out.1)) (fun hHeld => ?_)
        have T3:=hid hk3
        clear hK hk3 hz3
        refine zr 30 fun K9 hK => ?_
        go_simp
        refine (D.Less_any s14 s29 o14 o29 k14 k29 c14 c29 _ _ V3 (((H1.out.2).kept T2.out).kept T3.out) (H3.out.2) (by omega) (by omega)).mono ?_
        rintro e V4 ⟨hk4,s30,o30,k30,c30,rfl,hz4,hl30⟩
        have H4:=hid (And.intro ((H3.out.1).trans hk4) (hz4))
        refine hK.out _ _ (sS.out _ (HKW.out.trans H4.out.1)) (fun hHeld => ?_)
        have T4:=hid hk4
        clear hK hk4 hz4
        have hrS:=((H2.out.2).kept T3.out).kept T4.out
        have x0:=hrS.cell 0 _ rfl
        have x1:=hrS.cell 1 _ rfl
        have f0:=hrS.fz 0
        have f1:=hrS.fz 1
        have kx:KX (fun q => q = pV) V4 ((V4.setCell ⟨pV,0,none⟩ (.bool s30)).setCell ⟨pV,1,none⟩ (.slice o30 k30 c30)):=((KX.refl V4).setCell (T:=fun q => q = pV) (p:=⟨pV,0,none⟩) (.inl rfl) _).setCell (p:=⟨pV,1,none⟩) (.inl rfl) _
        have HF:=hid (And.intro (KX.kept (H4.out.1) kx (fun q hq => by rw [hq]; exact HP.out)) (And.intro (show RowL 51 _ pV [.bool s30,.slice o30 k30 c30] from (hrS.set 0 (.bool s30)).set 1 (.slice o30 k30 c30)) (nis_far hrS (H4.out.2) kx)))
        clear kx hrS
        refine zl fun K9 hK => ?_
        go_simp
        refine hK.out _ _ ?_
        clear hK x0 x1 f0 f1 hHeld
        refine zd ?_
        generalize (V4.setCell ⟨pV,0,none⟩ (.bool s30)).setCell ⟨pV,1,none⟩ (.slice o30 k30 c30) = w6 at HF ⊢
        have d0:=HF.out.2.1.cell 0 _ rfl
        have d1:=HF.out.2.1.cell 1 _ rfl
        have hrq:=HQ.out.2.kept (H.out.1.trans (J.out.1.trans HF.out.1))
        have e0:=hrq.cell 0 _ rfl
        have e1:=hrq.cell 1 _ rfl
        clear hrq
        have htk:=D.Divide_new s30 qs o30 qo k30 qk c30 qc _ q w6 HF.out.2.2 (HM.out.2.2.kept (HKW.out.trans HF.out.1)) (by omega) hqk hq0
        --%E
        go_wp2_with fail
        refine htk.mono ?_
        rintro e w7 ⟨hk,sq,aq,kq,cq,t,ar,kr,cr,rfl,hnq,hnr,hkk,hkr,hnw⟩
        have ez:nxF M L r c q i k = Int.tdiv (M r c * M i k - M i c * M r k) q:=by
         unfold nxF
         rw [if_pos HC.out.2.2.2.2]
        have hkK:kq≤K:=nis_len hnq (by rw [← ez]; exact HS.out i hit k hkt)
        obtain ⟨xs,ho,hA,hx⟩:=J.out.2
        have hlt11:∀ g,(A g ∨ Value.ownBlock u11 = some g)→g < w1.heap.size:=fun g hg => by
         rcases hg with hg | hg
         ·
          exact Nat.lt_of_lt_of_le (HA.out g hg) (HQ.out.1.trans H.out.1).size
         obtain ⟨_,ho1,_⟩:=H.out.2
         exact (World.ownsRow.lt ho1 g hg).2
        have K27:Kept w2 w7:=HF.out.1.trans hk
        have hd:DX (fun g => (A g ∨ Value.ownBlock u11 = some g) ∨ Value.ownBlock u13 = some g) K w7 sq (.slice aq kq cq) (nxF M L r c q i k):=by
         rw [ez]
         refine dx_new hnq hkK hnw (fun g hg => ?_)
         have h1:=HF.out.1.size
         have h2:=J.out.1.size
         rcases hg with hg | hg
         ·
          have:=hlt11 g hg
          omega
         ·
          have:=(World.ownsRow.lt ho g hg).2
          omega
        have rB:=RowL.alloc 51 w7 [.bool sq,.slice aq kq cq]
        have kB1:=(Kept.refl w7).alloc (.cells #[.bool sq,.slice aq kq cq] 51)
        have kB2:=(Kept.refl (w7.alloc (.cells #[.bool sq,.slice aq kq cq] 51))).alloc (.cells #[.bool t,.slice ar kr cr] 51)
        have rB:=rB.kept kB2
        have kB:=kB1.trans kB2
        clear kB1 kB2 d0 d1 e0 e1 htk hnq hnr
        --%F
        go_upto_region 13 with fail
        obtain ⟨pB,hpB⟩:∃ p,p = w7.heap.size:=⟨_,rfl⟩
        rw [← hpB] at rB ⊢
        clear hpB
        generalize (w7.alloc (.cells #[.bool sq,.slice aq kq cq] 51)).alloc (.cells #[.bool t,.slice ar kr cr] 51) = w8 at rB kB ⊢
        have g0:=rB.cell 0 _ rfl
        have g1:=rB.cell 1 _ rfl
        have K28:=K27.trans kB
        have H4:=hid (And.intro K28 (And.intro (own_keptK ho K28) (And.intro hA (And.intro (fun j (hj:j < k) => by
         obtain ⟨s,ao,m,cap,e1,e2,e3⟩:=hx j hj
         exact (⟨s,ao,m,cap,e1,e2,e3.kept K28⟩:∃ s ao m cap,xs[j * 2]? = some (.bool s)∧xs[j * 2 + 1]? = some (.slice ao m cap)∧DX (fun g => (A g ∨ Value.ownBlock u11 = some g) ∨ Value.ownBlock u13 = some g) K w8 s (.slice ao m cap) (nxF M L r c q i j))) (hd.kept kB)))))
        have hws:w1.heap.size≤w8.heap.size:=(J.out.1.trans K28).size
        have HL11:=hid hlt11
        clear ho hA hx hd rB kB K27 K28 hk hnw hlt11 ez
        --%G
        go_wp2_with (at_builtin; refine wpList_append_lies _ rfl (.tmp 82) (.tmp 84) 52 rfl w1.heap.size 51 i1 (.agg #[.bool false,.slice none 0 0]) 2 32 und_rns hi1 hy0 hy1 hy2 rfl (by decide) u13 k xs rfl (by exact World.ownsRow.alloc H4.out.2.1 _) ⟨w8.heap.size,0,none⟩ 1 1 [.bool sq,.slice aq kq cq] rfl rfl (cell2 w8 _ _ _) (fun u hu => by simp at hu; rcases hu with rfl | rfl <;> rfl) (by omega) (by unfold maxLen; omega) (by omega) (by simp; omega) _ rfl ?_)
        intro G cap2 w9 hO hgr hG _
        have kA:=(Kept.refl w8).alloc (.cells #[.bool sq,.slice aq kq cq] 51)
        have hOw:=World.ownsRow.alloc H4.out.2.1 (.cells #[.bool sq,.slice aq kq cq] 51)
        have hG:u13.ownBlock = some G ∨ G = (w8.alloc (.cells #[.bool sq,.slice aq kq cq] 51)).heap.size:=hG.imp id fun e => by rw [alloc_sz]; exact e
        generalize w8.alloc (.cells #[.bool sq,.slice aq kq cq] 51) = W5 at kA hgr hOw hG
        have KW:Kept w1 w9:=Below.grown ((J.out.1.trans H4.out.1).trans kA) hgr ((J.out.1.trans H4.out.1).trans kA).size (fun g hg => (World.ownsRow.lt hOw g hg).1)
        have HNn:=hid (And.intro KW (NO.snoc (A:=fun g => A g ∨ Value.ownBlock u11 = some g) (zs:=nxF M L r c q i) (fun g hg => by have:=HL11.out g hg; have:=((J.out.1.trans H4.out.1).trans kA).size; omega) xs H4.out.2.1.1 H4.out.2.2.1 (fun j hj => by
         obtain ⟨s,ao,m,cap,e1,e2,e3⟩:=H4.out.2.2.2.1 j hj
         exact ⟨s,ao,m,cap,e1,e2,e3.kept kA⟩) (H4.out.2.2.2.2.kept kA) hO hgr hG))
        clear kA hOw hgr hO KW hG g0 g1
        --%H
        go_wp2_with fail
        go_roundw
        case rel => exact ⟨k + 1,by omega,by go_num,HNn.out⟩
        case measure => show n - ((k:Int) + 1).toNat < n - (k:Int).toNat; omega
      ·
       refine ite_want (by kernel_rfl) ?_
       have hr1:=RowL.alloc 51 V0 [.bool false,.slice none 0 0]
       have hk1:=(Kept.refl V0).alloc (.cells #[.bool false,.slice none 0 0] 51)
       go_simp
       obtain ⟨pV,hpV⟩:∃ p,p = V0.heap.size:=⟨_,rfl⟩
       rw [← hpV] at hr1 ⊢
       have HP:=hid (show w2.heap.size≤pV by rw [hpV]; exact (G0.out.1).size)
       clear hpV
       change RowL 51 (V0.alloc (.cells #[.bool false,.slice none 0 0] 51)) pV _ at hr1
       generalize V0.alloc (.cells #[.bool false,.slice none 0 0] 51) = V1 at hr1 hk1 ⊢
       have H1:=hid (And.intro ((G0.out.1).trans hk1) (show RowL 51 V1 pV [.bool false,.slice none 0 0] from hr1))
       refine hK.out _ _ (sS.out _ (HKW.out.trans H1.out.1)) (fun hHeld => ?_)
       have T1:=hid hk1
       clear hK hk1 hr1
       refine zr 14 fun K9 hK => ?_
       go_simp
       refine (D.Times_any sA sB oA oB kA kB cA cB _ _ V1 (HX.out.1.kept (HKW.out.trans (H1.out.1))) (HX.out.2.1.kept (HKW.out.trans (H1.out.1))) (by omega) (by omega)).mono ?_
       rintro e V2 ⟨hk2,s14,o14,k14,c14,rfl,hz2,hl14⟩
       have H2:=hid (And.intro ((H1.out.1).trans hk2) (hz2))
       refine hK.out _ _ (sS.out _ (HKW.out.trans H2.out.1)) (fun hHeld => ?_)
       have T2:=hid hk2
       clear hK hk2 hz2
       refine zr 29 fun K9 hK => ?_
       go_simp
       refine (D.Times_any sC sD oC oD kC kD cC cD _ _ V2 (HX.out.2.2.1.kept (HKW.out.trans (H2.out.1))) (HX.out.2.2.2.kept (HKW.out.trans (H2.out.1))) (by omega) (by omega)).mono ?_
       rintro e V3 ⟨hk3,s29,o29,k29,c29,rfl,hz3,hl29⟩
       have H3:=hid (And.intro ((H2.out.1).trans hk3) (hz3))
       refine hK.out _ _ (sS.out _ (HKW.out.trans H3.out.1)) (fun hHeld => ?_)
       have T3:=hid hk3
       clear hK hk3 hz3
       refine zr 30 fun K9 hK => ?_
       go_simp
       refine (D.Less_any s14 s29 o14 o29 k14 k29 c14 c29 _ _ V3 ((H2.out.2).kept T3.out) (H3.out.2) (by omega) (by omega)).mono ?_
       rintro e V4 ⟨hk4,s30,o30,k30,c30,rfl,hz4,hl30⟩
       have H4:=hid (And.intro ((H3.out.1).trans hk4) (hz4))
       refine hK.out _ _ (sS.out _ (HKW.out.trans H4.out.1)) (fun hHeld => ?_)
       have T4:=hid hk4
       clear hK hk4 hz4
       have hrS:=(((H1.out.2).kept T2.out).kept T3.out).kept T4.out
       have x0:=hrS.cell 0 _ rfl
       have x1:=hrS.cell 1 _ rfl
       have f0:=hrS.fz 0
       have f1:=hrS.fz 1
       have kx:KX (fun q => q = pV) V4 ((V4.setCell ⟨pV,0,none⟩ (.bool s30)).setCell ⟨pV,1,none⟩ (.slice o30 k30 c30)):=((KX.refl V4).setCell (T:=fun q => q = pV) (p:=⟨pV,0,none⟩) (.inl rfl) _).setCell (p:=⟨pV,1,none⟩) (.inl rfl) _
       have HF:=hid (And.intro (KX.kept (H4.out.1) kx (fun q hq => by rw [hq]; exact HP.out)) (And.intro (show RowL 51 _ pV [.bool s30,.slice o30 k30 c30] from (hrS.set 0 (.bool s30)).set 1 (.slice o30 k30 c30)) (nis_far hrS (H4.out.2) kx)))
       clear kx hrS
       refine zl fun K9 hK => ?_
       go_simp
       refine hK.out _ _ ?_
       clear hK x0 x1 f0 f1 hHeld
       refine zd ?_
       generalize (V4.setCell ⟨pV,0,none⟩ (.bool s30)).setCell ⟨pV,1,none⟩ (.slice o30 k30 c30) = w6 at HF ⊢
       have d0:=HF.out.2.1.cell 0 _ rfl
       have d1:=HF.out.2.1.cell 1 _ rfl
       have hrq:=HQ.out.2.kept (H.out.1.trans (J.out.1.trans HF.out.1))
       have e0:=hrq.cell 0 _ rfl
       have e1:=hrq.cell 1 _ rfl
       clear hrq
       have htk:=D.Divide_new s30 qs o30 qo k30 qk c30 qc _ q w6 HF.out.2.2 (HM.out.2.2.kept (HKW.out.trans HF.out.1)) (by omega) hqk hq0
       --%E
       go_wp2_with fail
       refine htk.mono ?_
       rintro e w7 ⟨hk,sq,aq,kq,cq,t,ar,kr,cr,rfl,hnq,hnr,hkk,hkr,hnw⟩
       have ez:nxF M L r c q i k = Int.tdiv (M r c * M i k - M i c * M r k) q:=by
        unfold nxF
        rw [if_pos HC.out.2.2.2.2]
       have hkK:kq≤K:=nis_len hnq (by rw [← ez]; exact HS.out i hit k hkt)
       obtain ⟨xs,ho,hA,hx⟩:=J.out.2
       have hlt11:∀ g,(A g ∨ Value.ownBlock u11 = some g)→g < w1.heap.size:=fun g hg => by
        rcases hg with hg | hg
        ·
         exact Nat.lt_of_lt_of_le (HA.out g hg) (HQ.out.1.trans H.out.1).size
        obtain ⟨_,ho1,_⟩:=H.out.2
        exact (World.ownsRow.lt ho1 g hg).2
       have K27:Kept w2 w7:=HF.out.1.trans hk
       have hd:DX (fun g => (A g ∨ Value.ownBlock u11 = some g) ∨ Value.ownBlock u13 = some g) K w7 sq (.slice aq kq cq) (nxF M L r c q i k):=by
        rw [ez]
        refine dx_new hnq hkK hnw (fun g hg => ?_)
        have h1:=HF.out.1.size
        have h2:=J.out.1.size
        rcases hg with hg | hg
        ·
         have:=hlt11 g hg
         omega
        ·
         have:=(World.ownsRow.lt ho g hg).2
         omega
       have rB:=RowL.alloc 51 w7 [.bool sq,.slice aq kq cq]
       have kB1:=(Kept.refl w7).alloc (.cells #[.bool sq,.slice aq kq cq] 51)
       have kB2:=(Kept.refl (w7.alloc (.cells #[.bool sq,.slice aq kq cq] 51))).alloc (.cells #[.bool t,.slice ar kr cr] 51)
       have rB:=rB.kept kB2
       have kB:=kB1.trans kB2
       clear kB1 kB2 d0 d1 e0 e1 htk hnq hnr
       --%F
       go_upto_region 13 with fail
       obtain ⟨pB,hpB⟩:∃ p,p = w7.heap.size:=⟨_,rfl⟩
       rw [← hpB] at rB ⊢
       clear hpB
       generalize (w7.alloc (.cells #[.bool sq,.slice aq kq cq] 51)).alloc (.cells #[.bool t,.slice ar kr cr] 51) = w8 at rB kB ⊢
       have g0:=rB.cell 0 _ rfl
       have g1:=rB.cell 1 _ rfl
       have K28:=K27.trans kB
       have H4:=hid (And.intro K28 (And.intro (own_keptK ho K28) (And.intro hA (And.intro (fun j (hj:j < k) => by
        obtain ⟨s,ao,m,cap,e1,e2,e3⟩:=hx j hj
        exact (⟨s,ao,m,cap,e1,e2,e3.kept K28⟩:∃ s ao m cap,xs[j * 2]? = some (.bool s)∧xs[j * 2 + 1]? = some (.slice ao m cap)∧DX (fun g => (A g ∨ Value.ownBlock u11 = some g) ∨ Value.ownBlock u13 = some g) K w8 s (.slice ao m cap) (nxF M L r c q i j))) (hd.kept kB)))))
       have hws:w1.heap.size≤w8.heap.size:=(J.out.1.trans K28).size
       have HL11:=hid hlt11
       clear ho hA hx hd rB kB K27 K28 hk hnw hlt11 ez
       --%G
       go_wp2_with (at_builtin; refine wpList_append_lies _ rfl (.tmp 82) (.tmp 84) 52 rfl w1.heap.size 51 i1 (.agg #[.bool false,.slice none 0 0]) 2 32 und_rns hi1 hy0 hy1 hy2 rfl (by decide) u13 k xs rfl (by exact World.ownsRow.alloc H4.out.2.1 _) ⟨w8.heap.size,0,none⟩ 1 1 [.bool sq,.slice aq kq cq] rfl rfl (cell2 w8 _ _ _) (fun u hu => by simp at hu; rcases hu with rfl | rfl <;> rfl) (by omega) (by unfold maxLen; omega) (by omega) (by simp; omega) _ rfl ?_)
       intro G cap2 w9 hO hgr hG _
       have kA:=(Kept.refl w8).alloc (.cells #[.bool sq,.slice aq kq cq] 51)
       have hOw:=World.ownsRow.alloc H4.out.2.1 (.cells #[.bool sq,.slice aq kq cq] 51)
       have hG:u13.ownBlock = some G ∨ G = (w8.alloc (.cells #[.bool sq,.slice aq kq cq] 51)).heap.size:=hG.imp id fun e => by rw [alloc_sz]; exact e
       generalize w8.alloc (.cells #[.bool sq,.slice aq kq cq] 51) = W5 at kA hgr hOw hG
       have KW:Kept w1 w9:=Below.grown ((J.out.1.trans H4.out.1).trans kA) hgr ((J.out.1.trans H4.out.1).trans kA).size (fun g hg => (World.ownsRow.lt hOw g hg).1)
       have HNn:=hid (And.intro KW (NO.snoc (A:=fun g => A g ∨ Value.ownBlock u11 = some g) (zs:=nxF M L r c q i) (fun g hg => by have:=HL11.out g hg; have:=((J.out.1.trans H4.out.1).trans kA).size; omega) xs H4.out.2.1.1 H4.out.2.2.1 (fun j hj => by
        obtain ⟨s,ao,m,cap,e1,e2,e3⟩:=H4.out.2.2.2.1 j hj
        exact ⟨s,ao,m,cap,e1,e2,e3.kept kA⟩) (H4.out.2.2.2.2.kept kA) hO hgr hG))
       clear kA hOw hgr hO KW hG g0 g1
       --%H
       go_wp2_with fail
       go_roundw
       case rel => exact ⟨k + 1,by omega,by go_num,HNn.out⟩
       case measure => show n - ((k:Int) + 1).toNat < n - (k:Int).toNat; omega
     ·
      have hkk:¬ (k:Int) < (n:Int):=by omega
      obtain rfl:k = n:=by omega
      obtain ⟨gs,ho,hv1,hx⟩:=H.out.2.kept J.out.1
      obtain ⟨la,lc,e⟩:=J.out.2.rdx.shape
      subst e
      have HO:=hid (And.intro ho (And.intro hx J.out.2.rdx))
      have HV:=hid hv1
      clear ho hx hv1
      have hws:W0.heap.size≤w2.heap.size:=(H.out.1.trans J.out.1).size
      --%H
      go_wp2_with (at_builtin; refine wpList_append_lies _ rfl (.tmp 86) (.tmp 88) 45 rfl W0.heap.size 52 i0 (.slice none 0 0) 1 24 und_rnss hi0 hz0 hz1 hz2 rfl (by decide) u11 i gs rfl (by exact World.ownsRow.alloc HO.out.1 _) ⟨w2.heap.size,0,none⟩ 1 1 [.slice la k lc] rfl rfl (cell1 w2 _ _) (fun u hu => by simp at hu; rcases hu with rfl; rfl) (by omega) (by unfold maxLen; omega) (by omega) (by simp; omega) _ rfl ?_)
      intro G cap2 w7 hO hgr hG _
      have kA:=(Kept.refl w2).alloc (.cells #[.slice la k lc] 52)
      have hOw:=World.ownsRow.alloc HO.out.1 (.cells #[.slice la k lc] 52)
      have hG:u11.ownBlock = some G ∨ G = (w2.alloc (.cells #[.slice la k lc] 52)).heap.size:=hG.imp id fun e => by rw [alloc_sz]; exact e
      generalize w2.alloc (.cells #[.slice la k lc] 52) = W5 at kA hgr hOw hG
      have KW:Kept W0 w7:=Below.grown ((H.out.1.trans J.out.1).trans kA) hgr ((H.out.1.trans J.out.1).trans kA).size (fun q hq => (World.ownsRow.lt hOw q hq).1)
      have HNn:=hid (And.intro KW (MOA.snoc (A:=A) (F:=nxF M L r c q) (fun q hq => Nat.lt_of_lt_of_le (HA.out q hq) (HQ.out.1.trans ((H.out.1.trans J.out.1).trans kA)).size) gs (by have:=HO.out.1.1; omega) HV.out (fun j hj => by
       obtain ⟨ra,rc,e1,e2⟩:=HO.out.2.1 j hj
       exact ⟨ra,rc,e1,e2.kept kA⟩) (HO.out.2.2.kept kA) hO hgr hG))
      clear kA hOw hgr hO KW hG
      --%I
      go_wp2_with fail
      go_roundw
      case rel => exact ⟨i + 1,by omega,by go_num,HNn.out⟩
      case measure => show k - ((i:Int) + 1).toNat < k - (i:Int).toNat; omega
  ·
   have hii:¬ (i:Int) < (n:Int):=by omega
   obtain rfl:i = n:=by omega
   obtain ⟨ao,cap,e⟩:=H.out.2.mna.shape
   subst e
   --%I
   go_wp2_with fail
   go_ret
   exact ⟨HQ.out.1.trans H.out.1,ao,cap,rfl,H.out.2.mna⟩
end Bp
end Go.Proofs.YtdcgdpbgnijnpaaGreat
