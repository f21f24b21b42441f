/- shuntref14.Give, Same, Solve. -/
import Derived.Test.YtdcgdpbgnijnpaaGreatFt11
import Derived.Test.YtdcgdpbgnijnpaaGreatGad
import Derived.Test.YtdcgdpbgnijnpaaGreatGad
import Derived.Test.YtdcgdpbgnijnpaaGreatRquo
import Derived.Test.YtdcgdpbgnijnpaaGreatGav
import Derived.Test.YtdcgdpbgnijnpaaGreatGan
namespace Go.Proofs.YtdcgdpbgnijnpaaGreat
open Go.RowKit
open V (RowL RowL.alloc RowL.lt RowL.cell RowL.fz RowL.kept RowL.block RowL.set RowL.far)
open Sp (hid own_kept own_keptK own_row own_shape info_parts)
open Ba (stg lastP pivs leftR leftC wideZ wideM nz facGo facS Fits)
open Bm (ZI ZI.kept ZI.of MxR ZsR mxr_at mxr_kept zsr_at zsr_kept mOk)
open X (zk zr zl zd region_z)
open Sy
namespace Bp
theorem give_zn (m:Bool) (ao:Option Addr) (k cap:Nat) (z:Int) (w:World) (h:D.NIs w m (.slice ao k cap) z) (hk:k≤7000) (hz:z.natAbs < M.W72) :
  Calls Tryz.prog 12 #[.agg #[.bool m,.slice ao k cap]] w fun e w' => Kept w w'∧∃ ao' n' cap',e = .returned (.agg #[.bool m,.slice ao' n' cap'])∧ZN w.heap.size w' m (.slice ao' n' cap') z:=by
 refine (D.Give_int m ao k cap z w h (by omega)).mono ?_
 rintro e w' ⟨h1,ao',n',cap',l,rfl,hn,ht,hv,hl⟩
 refine ⟨h1,ao',n',cap',rfl,l,hn,⟨hn.sl.bd,ht,?_,hl⟩,hv⟩
 rw [← hv,M.natAbs_int] at hz
 rcases Nat.lt_or_ge 72 l.length with h2 | h2
 ·
  have:=M.W72_le ht h2; omega
 ·
  exact h2
section
variable {B:Nat} {T:Nat→Prop} {w w':World}
theorem New_low {v:Value} {l:List Nat} (h:New B w v l) (k:KX T w w') (hT:∀ q,T q→q < B):New B w' v l:=by
 obtain ⟨hb,⟨rfl,rfl⟩ | ⟨b,N,f,rfl,hB,hN,hr,hf⟩⟩:=h
 ·
  exact ⟨hb,.inl ⟨rfl,rfl⟩⟩
 ·
  exact ⟨hb,.inr ⟨b,N,f,rfl,hB,hN,hr.of_block (k.block b hr.lt fun ht => by have:=hT b ht; omega),hf⟩⟩
theorem ZN.low {s:Bool} {v:Value} {z:Int} (h:ZN B w s v z) (k:KX T w w') (hT:∀ q,T q→q < B):ZN B w' s v z:=by
 obtain ⟨l,h1,h2⟩:=h
 exact ⟨l,New_low h1 k hT,h2⟩
theorem own_low {e:TypeId} {sz m:Nat} {v:Value} {xs:List Value} (h:w.ownsRow B e sz v m xs) (k:KX T w w') (hT:∀ q,T q→q < B):w'.ownsRow B e sz v m xs:=own_kept h fun b hb => k.block b (World.ownsRow.lt h b hb).2 fun ht => by
 have:=hT b ht
 have:=(World.ownsRow.lt h b hb).1
 omega
theorem SdX.low {so:Option Addr} {n sc:Nat} {zs:Nat→Int} (h:SdX (EN B) B w so n sc zs) (k:KX T w w') (hT:∀ q,T q→q < B):SdX (EN B) B w' so n sc zs:=fun h0 => by
 obtain ⟨g,xs,e,ho,hx⟩:=h h0
 refine ⟨g,xs,e,own_low ho k hT,fun j hj => ?_⟩
 obtain ⟨s,ao,m,cap,x1,x2,x3⟩:=hx j hj
 exact ⟨s,ao,m,cap,x1,x2,ZN.low x3 k hT⟩
theorem NV.low {v:Value} {z:Int} (h:NV B w v z) (k:KX T w w') (hT:∀ q,T q→q < B):NV B w' v z:=by
 obtain ⟨s,u,l,rfl,h1,h2,h3⟩:=h
 exact ⟨s,u,l,rfl,New_low h1 k hT,h2,h3⟩
theorem NumM.low {b n:Nat} {f:Nat→Int} (h:NumM B w b n f) (k:KX T w w') (hT:∀ q,T q→q < B):NumM B w' b n f:=by
 obtain ⟨h0,es,clock,h1,h2,h3⟩:=h
 exact ⟨h0,es,clock,(k.block b (Array.getElem?_eq_some_iff.1 h1).1 (fun ht => by have:=hT b ht; omega)).trans h1,h2,fun x hx => by
  obtain ⟨c,h1,h2,h3,h4⟩:=h3.key x hx
  exact ⟨c,h1,h2,h3,NV.low h4 k hT⟩,h3.all⟩
theorem FacR.low {fb n limbs:Nat} {sa:Option Addr} {sk sc:Nat} {Ss:List StC} {M:Nat→Nat→Int} {ps:List (Nat × Nat)} (h:FacR B w fb n limbs sa sk sc Ss M ps) (k:KX T w w') (hT:∀ q,T q→q < B):FacR B w' fb n limbs sa sk sc Ss M ps :=
 ⟨row_kx h.box k (fun ht => by have:=hT fb ht; have:=h.lies; omega),h.lies,⟨h.sts.len,own_low h.sts.own k hT,fun j hj hj' =>
  ⟨(h.sts.st j hj hj').er,(h.sts.st j hj hj').ec,(h.sts.st j hj hj').zp.low k hT,(h.sts.st j hj hj').zq.low k hT,(h.sts.st j hj hj').za.low k hT,(h.sts.st j hj hj').zd.low k hT⟩⟩⟩
end
theorem row_free {w:World} {t t':TypeId} {p:Nat} {xs:List Value} (r:RowL t' w p xs) (ht:t ≠ t'):Free t (fun q => q = p) w:=fun q hq cur fr e => by
 subst hq
 obtain ⟨c',h4,_⟩:=r
 rw [h4] at e
 injection e with e
 injection e with _ e2
 exact ht e2.symm
def GvIs (n:Nat) (X:Nat→Int) (d:Int) (w:World) (e:Ending) (w':World):Prop :=
 Kept w w'∧∃ yo yc s o k c,e = .returned (.agg #[.slice yo n yc,.bool s,.slice o k c])∧SdX (EN w.heap.size) w.heap.size w' yo n yc X∧ZN w.heap.size w' s (.slice o k c) d
set_option maxRecDepth 100000 in
set_option maxHeartbeats 16000000 in
theorem give14_any (xo:Option Addr) (n xc:Nat) (s:Bool) (o:Option Addr) (k c:Nat) (X:Nat→Int) (d:Int) (w:World) (hx:RdX (fun _ => False) 200 X w (.slice xo n xc) n) (hd:D.NIs w s (.slice o k c) d) (hk:k≤200) (hX:∀ j,j < n→(X j).natAbs < M.W72) (hdz:d.natAbs < M.W72) (hn:n≤48) :
  Calls Tryz.prog 41 #[.agg #[.slice xo n xc,.bool s,.slice o k c]] w (GvIs n X d w):=by
 obtain ⟨Q,hQ⟩:∃ Q,Q = GvIs n X d w:=⟨_,rfl⟩
 rw [← hQ]
 have HQ:=hid hQ
 have HX:=hid (And.intro hx (And.intro hd (And.intro hX hdz)))
 clear hQ hx hd hX hdz
 obtain ⟨i0,hi,hz0,hz1,hz2⟩:=info_parts info_zi
 go_enter Tryz.func41,Tryz.ntmps41
 have r1:=RowL.alloc 94 w [.slice xo n xc,.bool s,.slice o k c]
 have k1:=(Kept.refl w).alloc (.cells #[.slice xo n xc,.bool s,.slice o k c] 94)
 obtain ⟨wa,hwa⟩:∃ W,W = w.alloc (.cells #[.slice xo n xc,.bool s,.slice o k c] 94):=⟨_,rfl⟩
 have hsz:wa.heap.size = w.heap.size + 1:=by rw [hwa,alloc_sz]
 have r2:=RowL.alloc 54 wa [.slice none 0 0,.bool false,.slice none 0 0]
 have k2:=(Kept.refl wa).alloc (.cells #[.slice none 0 0,.bool false,.slice none 0 0] 54)
 rw [← hwa] at k1
 have r1:RowL 94 wa w.heap.size [.slice xo n xc,.bool s,.slice o k c]:=by rw [hwa]; exact r1
 obtain ⟨px,hpx⟩:∃ p,p = w.heap.size:=⟨_,rfl⟩
 obtain ⟨pR,hpR⟩:∃ p,p = w.heap.size + 1:=⟨_,rfl⟩
 rw [hsz,← hpR] at r2
 rw [← hpx] at r1
 --%A
 go_upto_region 1 with fail
 rw [← hpR,← hpx,← hwa]
 have r1:=r1.kept k2
 have HPP:=hid (show w.heap.size≤px∧w.heap.size≤pR by omega)
 clear hpR hpx hwa
 change RowL 54 (wa.alloc (.cells #[.slice none 0 0,.bool false,.slice none 0 0] 54)) pR _ at r2
 change RowL 94 (wa.alloc (.cells #[.slice none 0 0,.bool false,.slice none 0 0] 54)) px _ at r1
 have kW:=k1.trans k2
 generalize wa.alloc (.cells #[.slice none 0 0,.bool false,.slice none 0 0] 54) = W0 at r1 r2 kW ⊢
 have HB:=hid (And.intro kW (And.intro r1 r2))
 have y1:=r1.cell 1 _ rfl
 have y2:=r1.cell 2 _ rfl
 have hgv:=give_zn s o k c d W0 (HX.out.2.1.kept kW) (by omega) HX.out.2.2.2
 clear k1 k2 r1 r2 kW hsz
 --%B
 go_wp2_with fail
 refine hgv.mono ?_
 rintro e w1 ⟨hk1,o1,n1,c1,rfl,hz1'⟩
 have rO:=RowL.alloc 54 w1 [.slice none 0 0,.bool s,.slice o1 n1 c1]
 have kO:=(Kept.refl w1).alloc (.cells #[.slice none 0 0,.bool s,.slice o1 n1 c1] 54)
 obtain ⟨pO,hpO⟩:∃ p,p = w1.heap.size:=⟨_,rfl⟩
 rw [← hpO] at rO
 have HPO:=hid (show W0.heap.size≤pO by have:=hk1.size; omega)
 --%C
 go_wp2_with fail
 rw [← hpO]
 clear hpO
 change RowL 54 (w1.alloc (.cells #[.slice none 0 0,.bool s,.slice o1 n1 c1] 54)) pO _ at rO
 generalize w1.alloc (.cells #[.slice none 0 0,.bool s,.slice o1 n1 c1] 54) = w2 at rO kO ⊢
 have HV:=hid (show Kept W0 w2∧(∃ yo yc,RowL 54 w2 pO [.slice yo 0 yc,.bool s,.slice o1 n1 c1]∧SdO (EN W0.heap.size) W0.heap.size w2 (.slice yo 0 yc) 0 X)∧ZN W0.heap.size w2 s (.slice o1 n1 c1) d from ⟨hk1.trans kO,⟨none,0,rO,SdO.nil _ _ _ _⟩,hz1'.kept kO⟩)
 clear rO kO hk1 hz1' hgv y1 y2
 go_loopw [4] (fun v4 wr => ∃ i:Nat,i≤n∧v4 = .int .i64 (i:Int)∧Hid (Kept W0 wr∧(∃ yo yc,RowL 54 wr pO [.slice yo i yc,.bool s,.slice o1 n1 c1]∧SdO (EN W0.heap.size) W0.heap.size wr (.slice yo i yc) i X)∧ZN W0.heap.size wr s (.slice o1 n1 c1) d)) (fun v4 _ => n - (intOf v4).toNat)
 case atStart => exact ⟨0,Nat.zero_le _,rfl,HV.out⟩
 case round =>
  clear HV
  obtain ⟨i,hin,rfl,H⟩:=hrel
  generalize wr = w3 at H ⊢
  have z0:=(HB.out.2.1.kept H.out.1).cell 0 _ rfl
  by_cases hit:i < n
  ·
   have hii:(i:Int) < (n:Int):=by omega
   have hi0:(0:Int)≤(i:Int):=by omega
   obtain ⟨yo,yc,rO,hS⟩:=H.out.2.1
   obtain ⟨xb,xoff,s3,o3,k3,c3,rfl,_,_,hxc,hxd,hk3⟩:=HX.out.1.at hit
   have sS:=hid (fun (V:World) (h1:V.cell? ⟨pO,0,none⟩ = some (.slice yo i yc)) (K:Kept W0 V) => show (fun w':World => (w'.cell? ⟨pO,0,none⟩ = some (.slice yo i yc)∧w'.cell? ⟨px,0,none⟩ = some (.slice (some ⟨xb,xoff,none⟩) n xc)∧w'.cell? ⟨xb,xoff + i * 2,none⟩ = some (.bool s3)∧w'.cell? ⟨xb,xoff + i * 2 + 1,none⟩ = some (.slice o3 k3 c3))) V from ⟨h1,(HB.out.2.1.kept K).cell 0 _ rfl,(hxc V (KX.of (HB.out.1.trans K))).1,(hxc V (KX.of (HB.out.1.trans K))).2⟩)
   have HR:=hid (And.intro rO (And.intro hS (hxd.1)))
   clear rO hS hxc hxd
   --%D
   go_upto_region 5 with fail
   clear z0
   have KT:Kept w3 w3.drew:=(Kept.refl _).drew
   refine region_z 11 (S:=fun w' => (w'.cell? ⟨pO,0,none⟩ = some (.slice yo i yc)∧w'.cell? ⟨px,0,none⟩ = some (.slice (some ⟨xb,xoff,none⟩) n xc)∧w'.cell? ⟨xb,xoff + i * 2,none⟩ = some (.bool s3)∧w'.cell? ⟨xb,xoff + i * 2 + 1,none⟩ = some (.slice o3 k3 c3))) (by kernel_rfl) (sS.out _ ((HR.out.1.kept KT).cell 0 _ rfl) (H.out.1.trans KT)) (fun hHeld => ?_)
   generalize hwd:w3.drew = V0 at KT hHeld ⊢
   clear hwd
   have G0:=hid KT
   clear KT
   refine zk 0 hHeld ?_
   refine zk 1 hHeld ?_
   refine zk 2 hHeld ?_
   refine zk 3 hHeld ?_
   refine zk 4 hHeld ?_
   refine zk 5 hHeld ?_
   refine zk 6 hHeld ?_
   refine zr 7 fun K9 hK => ?_
   go_simp
   refine (give_zn s3 o3 k3 c3 (X i) V0 (HR.out.2.2.kept (HB.out.1.trans (H.out.1.trans G0.out))) (by omega) (HX.out.2.2.1 i hit)).mono ?_
   rintro e V1 ⟨hk1,o5,n5,c5,rfl,hz5⟩
   have kx1:=G0.out.trans hk1
   refine hK.out _ _ (sS.out _ ((HR.out.1.kept kx1).cell 0 _ rfl) (H.out.1.trans kx1)) (fun hHeld => ?_)
   clear hK
   refine zr 8 fun K9 hK => ?_
   have kA:=(Kept.refl V1).alloc (.cells #[.bool s3,.slice o5 n5 c5] 37)
   go_simp
   have kx2:=kx1.trans kA
   refine hK.out _ _ (sS.out _ ((HR.out.1.kept kx2).cell 0 _ rfl) (H.out.1.trans kx2)) (fun hHeld => ?_)
   clear hK
   refine zr 9 fun K9 hK => ?_
   obtain ⟨xs,ho,hxs⟩:=HR.out.2.1.kept (EN.keeps _) kx2
   have hws:W0.heap.size≤(V1.alloc (.cells #[.bool s3,.slice o5 n5 c5] 37)).heap.size:=(H.out.1.trans kx2).size
   refine wp_append_lies _ (.tmp 17) (.tmp 24) 23 rfl W0.heap.size 37 i0 (.agg #[.bool false,.slice none 0 0]) 2 32 und_zi hi hz0 hz1 hz2 rfl (by decide) (.slice yo i yc) i xs rfl ho ⟨V1.heap.size,0,none⟩ 1 1 [.bool s3,.slice o5 n5 c5] rfl rfl (cell2 V1 _ _ _) (fun u hu => by simp at hu; rcases hu with rfl | rfl <;> rfl) (by omega) (by unfold maxLen; omega) (by omega) hws _ rfl ?_
   intro G cap2 V3 hO hgr _ _
   have rW:=HR.out.1.kept kx2
   have hS2:SdO (EN W0.heap.size) W0.heap.size (V1.alloc (.cells #[.bool s3,.slice o5 n5 c5] 37)) (.slice yo i yc) i X:=⟨xs,ho,hxs⟩
   have hz6:EN W0.heap.size (V1.alloc (.cells #[.bool s3,.slice o5 n5 c5] 37)) s3 (.slice o5 n5 c5) (X i):=ZN.kept (ZN.mono hz5 (H.out.1.trans G0.out).size) kA
   have hsn:=hS2.snoc (EN.keeps _) xs hxs ho.1 ho hz6 hO hgr
   have hne:=own_row ho rW (by decide)
   have r3:RowL 54 V3 pO [.slice yo i yc,.bool s,.slice o1 n1 c1]:=rW.block (hgr.block pO rW.lt (fun e => hne e.symm))
   have kW3:Kept W0 V3:=Below.grown (H.out.1.trans kx2) hgr (H.out.1.trans kx2).size (fun q hq => (World.ownsRow.lt ho q hq).1)
   have hfu:Free 40 (fun q => (Value.slice yo i yc).ownBlock = some q) (V1.alloc (.cells #[.bool s3,.slice o5 n5 c5] 37)):=fun q hq cur fr e => by
    rcases ho.2 with ⟨e1,_⟩ | ⟨g,_,_,e1,_,hg2,_⟩
    ·
     rw [e1] at hq; cases hq
    ·
     rw [e1] at hq
     cases hq
     rw [hg2] at e
     injection e with e
     injection e with _ e2
     exact absurd e2 (by decide)
   have hzd:ZN W0.heap.size V3 s (.slice o1 n1 c1) d:=ZN.kx (H.out.2.2.kept kx2) ((KX.grown hgr).mono fun q hq => hq.symm) hfu
   have kxO:KX (fun q => q = pO) V3 (V3.setCell ⟨pO,0,none⟩ (.slice (some ⟨G,0,none⟩) (i + 1) cap2)):=(KX.refl V3).setCell (T:=fun q => q = pO) (p:=⟨pO,0,none⟩) (.inl rfl) _
   have HN:=hid (show Kept W0 (V3.setCell ⟨pO,0,none⟩ (.slice (some ⟨G,0,none⟩) (i + 1) cap2))∧(∃ yo yc,RowL 54 (V3.setCell ⟨pO,0,none⟩ (.slice (some ⟨G,0,none⟩) (i + 1) cap2)) pO [.slice yo (i + 1) yc,.bool s,.slice o1 n1 c1]∧SdO (EN W0.heap.size) W0.heap.size (V3.setCell ⟨pO,0,none⟩ (.slice (some ⟨G,0,none⟩) (i + 1) cap2)) (.slice yo (i + 1) yc) (i + 1) X)∧ZN W0.heap.size (V3.setCell ⟨pO,0,none⟩ (.slice (some ⟨G,0,none⟩) (i + 1) cap2)) s (.slice o1 n1 c1) d from
    ⟨kW3.setCell (p:=⟨pO,0,none⟩) HPO.out _,⟨_,_,r3.set 0 (.slice (some ⟨G,0,none⟩) (i + 1) cap2),hsn.kx (EN.keeps _) kxO (row_free r3 (by decide)) (row_free r3 (by decide))⟩,hzd.kx kxO (row_free r3 (by decide))⟩)
   have x0:=r3.cell 0 _ rfl
   have f0:=r3.fz 0
   refine hK.out _ _ (sS.out _ (r3.cell 0 _ rfl) kW3) (fun hHeld => ?_)
   clear hK hk1 hz5 kx1 kA kx2 ho hxs hws hO hgr rW hS2 hz6 hsn hne r3 kW3 hfu hzd kxO
   refine zr 10 fun K9 hK => ?_
   go_simp
   refine hK.out _ _ hHeld (fun hHeld => ?_)
   clear hK
   refine zl fun K9 hK => ?_
   go_simp
   refine hK.out _ _ ?_
   clear hK x0 f0 hHeld
   refine zd ?_
   --%E
   go_wp2_with fail
   go_roundw
   case rel => exact ⟨i + 1,by omega,by go_num,HN.out⟩
   case measure => show n - ((i:Int) + 1).toNat < n - (i:Int).toNat; omega
  ·
   have hii:¬ (i:Int) < (n:Int):=by omega
   obtain rfl:i = n:=by omega
   obtain ⟨yo,yc,rO,hS⟩:=H.out.2.1
   have x0:=rO.cell 0 _ rfl
   have x1:=rO.cell 1 _ rfl
   have x2:=rO.cell 2 _ rfl
   have rR:=HB.out.2.2.kept H.out.1
   have w0:=rR.cell 0 _ rfl
   have w1':=rR.cell 1 _ rfl
   have w2':=rR.cell 2 _ rfl
   have f0:=rR.fz 0
   have f1:=rR.fz 1
   have f2:=rR.fz 2
   have kxR:KX (fun q => q = pR) w3 (((w3.setCell ⟨pR,0,none⟩ (.slice yo i yc)).setCell ⟨pR,1,none⟩ (.bool s)).setCell ⟨pR,2,none⟩ (.slice o1 n1 c1)):=(((KX.refl w3).setCell (T:=fun q => q = pR) (p:=⟨pR,0,none⟩) (.inl rfl) _).setCell (p:=⟨pR,1,none⟩) (.inl rfl) _).setCell (p:=⟨pR,2,none⟩) (.inl rfl) _
   have HE:=hid (show GvIs i X d w (.returned (.agg #[.slice yo i yc,.bool s,.slice o1 n1 c1])) (((w3.setCell ⟨pR,0,none⟩ (.slice yo i yc)).setCell ⟨pR,1,none⟩ (.bool s)).setCell ⟨pR,2,none⟩ (.slice o1 n1 c1)) from
    ⟨KX.kept (HB.out.1.trans H.out.1) kxR fun q hq => by rw [hq]; exact HPP.out.2,yo,yc,s,o1,n1,c1,rfl,(hS.sdx.kx (EN.keeps _) kxR (row_free rR (by decide)) (row_free rR (by decide))).mono HB.out.1.size,ZN.mono (ZN.kx H.out.2.2 kxR (row_free rR (by decide))) HB.out.1.size⟩)
   clear rO hS rR kxR
   --%F
   go_wp2_with fail
   refine bodyPost_ret (v:=.agg #[.slice yo i yc,.bool s,.slice o1 n1 c1]) (by simp [results,Tryz.results41,go_sem,w0,w1',w2']) rfl ?_
   rw [HQ.out]
   exact HE.out
end Bp
end Go.Proofs.YtdcgdpbgnijnpaaGreat
