/- shuntref14.Det, whole. -/
import Derived.Test.YtdcfammglpebaaaGreatDt6
namespace Go.Proofs.YtdcfammglpebaaaGreat
open Go.RowKit
open V (RowL RowL.alloc RowL.lt RowL.cell RowL.fz RowL.kept RowL.block RowL.set RowL.far)
open Sp (hid own_kept own_keptK own_shape info_parts)
open X (zk zr zl zd region_z anyZ_ready AllZ AllZ.cons AllZ.nil)
open Ba (stg lastP pivs Fits cast tr2)
open F (Low)
namespace Bp
theorem small_one_new (w:World):Calls Tryz.prog 37 #[.int .i64 1] w fun e w' => Kept w w'∧∃ ao k c,e = .returned (.agg #[.bool false,.slice ao k c])∧D.NIs w' false (.slice ao k c) 1∧k≤1∧(0 < k→∃ b,ao = some ⟨b,0,none⟩∧w.heap.size≤b):=by
 refine (D.Small_new 1 w (by decide)).mono ?_
 rintro e w' ⟨hk,ao,n,cap,l,rfl,hs,ht,hv,hl,hn⟩
 exact ⟨hk,ao,n,cap,rfl,⟨l,hs,⟨hs.bd,ht,fun _ => rfl⟩,by simp [D.int,hv]⟩,by rw [dsl_len hs]; exact hl,hn⟩
theorem info_rf:(Tryz.prog.info? 111).map (fun i => (i.zero,i.size,i.bytes)) = some (some (.agg #[.bool false,.slice none 0 0,.bool false,.slice none 0 0]),4,64):=by kernel_rfl
theorem und_rfs:Tryz.prog.underlying 109 = some (.slice 111):=by kernel_rfl
theorem info_rfs:(Tryz.prog.info? 109).map (fun i => (i.zero,i.size,i.bytes)) = some (some (.slice none 0 0),1,24):=by kernel_rfl
theorem und_rfss:Tryz.prog.underlying 108 = some (.slice 109):=by kernel_rfl
theorem row_news4 {w:World} {p:Nat} {t:TypeId} {xs:List Value} (r:RowL t w p xs):∀ j u,xs[j]? = some u→w.cell? ((⟨p,0,none⟩:Addr).add j) = some u:=fun j u hu => by
 by_cases h:j = 0
 ·
  subst h
  simpa [Addr.add] using r.cell 0 u hu
 ·
  simpa [Addr.add,h] using r.cell j u hu
set_option maxRecDepth 100000 in
set_option maxHeartbeats 80000000 in
theorem det14_any (so:Option Addr) (n sc:Nat) (M:Nat→Nat→Int) (w:World) (h:MN 144 n M w (.slice so n sc) n) (hn:n≤48) :
  Calls Tryz.prog 21 #[.slice so n sc] w fun e w' => Kept w w'∧DetIs n M w' e:=by
 have HM:=hid h
 have HF:=hid (few_of h)
 clear h
 obtain ⟨i0,hi0,hz0,hz1,hz2⟩:=info_parts info_rf
 obtain ⟨i1,hi1,hy0,hy1,hy2⟩:=info_parts info_rfs
 have rR:=RowL.alloc 51 w [.bool false,.slice none 0 0]
 have kR:=(Kept.refl w).alloc (.cells #[.bool false,.slice none 0 0] 51)
 go_enter Tryz.func21,Tryz.ntmps21
 --%A
 go_upto_region 3 with fail
 generalize w.alloc (.cells #[.bool false,.slice none 0 0] 51) = wB at rR kR ⊢
 obtain ⟨pR,hpR⟩:∃ p,p = w.heap.size:=⟨_,rfl⟩
 rw [← hpR] at rR ⊢
 have HB:=hid (And.intro kR (And.intro rR (show w.heap.size≤pR by rw [hpR]; exact Nat.le_refl _)))
 clear rR kR hpR
 --%B
 go_wp2_with fail
 go_loopw [4,5] (fun v4 v5 wr => ∃ i:Nat,i≤n∧v5 = .int .i64 (i:Int)∧Hid (Kept wB wr∧RO wB.heap.size n M wr v4 i)) (fun _ v5 _ => n - (intOf v5).toNat)
 case atStart => exact ⟨0,Nat.zero_le _,rfl,Kept.refl _,RO.nil _ _ _ _⟩
 case round =>
  obtain ⟨i,hi,rfl,H⟩:=hrel
  generalize wr = w4 at H ⊢
  by_cases hit:i < n
  ·
   have hii:(i:Int) < (n:Int):=by omega
   have hi0':(0:Int)≤(i:Int):=by omega
   obtain ⟨b,off,ra,rc,rfl,hb,hc,hrd⟩:=HM.out.at hit
   have HC:=hid (And.intro hc hrd)
   have hA:∀ q,u4.ownBlock = some q→wB.heap.size≤q∧q < w4.heap.size:=fun q hq => by
    obtain ⟨hs,_,_,ho,_⟩:=H.out.2
    exact World.ownsRow.lt ho q hq
   have HA:=hid hA
   clear hc hrd hA
   --%C
   go_wp2_with fail
   go_loopw [6,7] (fun v6 v7 wr => ∃ j:Nat,j≤n∧v7 = .int .i64 (j:Int)∧Hid (Kept w4 wr∧FO (fun q => u4.ownBlock = some q) w4.heap.size (M i) wr v6 j)) (fun _ v7 _ => n - (intOf v7).toNat)
   case atStart => exact ⟨0,Nat.zero_le _,rfl,Kept.refl _,FO.nil _ _ _ _⟩
   case round =>
    obtain ⟨j,hj,rfl,J⟩:=hrel
    generalize wr = w5 at J ⊢
    by_cases hjt:j < n
    ·
     have hjj:(j:Int) < (n:Int):=by omega
     have hj0:(0:Int)≤(j:Int):=by omega
     obtain ⟨b2,o2,s,zo,zk9,zc,rfl,hb2,_,hcb,hdx,hzk⟩:=HC.out.2.at hjt
     have hcb2:=fun (V:World) (K:Kept w V) => hcb V (KX.of K)
     have KW:=HB.out.1.trans (H.out.1.trans J.out.1)
     obtain ⟨xs,ho,hAv,hx⟩:=J.out.2
     have H5:=hid (And.intro KW (And.intro ho (And.intro hAv (And.intro hx hdx))))
     have sS:=hid (fun (V:World) (K:Kept w V) => show (fun w':World => w'.cell? ⟨b,off + i,none⟩ = some (.slice (some ⟨b2,o2,none⟩) n rc)∧w'.cell? ⟨b2,o2 + j * 2,none⟩ = some (.bool s)∧w'.cell? ⟨b2,o2 + j * 2 + 1,none⟩ = some (.slice zo zk9 zc)) V from ⟨HC.out.1 V K,(hcb2 V K).1,(hcb2 V K).2⟩)
     have KT:Kept w5 w5.drew:=(Kept.refl _).drew
     clear hcb hcb2 hdx ho hAv hx KW
     --%D
     go_upto_region 10 with fail
     refine region_z 12 (S:=fun w' => w'.cell? ⟨b,off + i,none⟩ = some (.slice (some ⟨b2,o2,none⟩) n rc)∧w'.cell? ⟨b2,o2 + j * 2,none⟩ = some (.bool s)∧w'.cell? ⟨b2,o2 + j * 2 + 1,none⟩ = some (.slice zo zk9 zc)) (by kernel_rfl) (sS.out _ (H5.out.1.trans KT)) (fun hHeld => ?_)
     generalize w5.drew = Wd at KT hHeld ⊢
     refine zk 0 hHeld ?_
     refine zk 1 hHeld ?_
     refine zk 2 hHeld ?_
     refine zk 3 hHeld ?_
     refine zk 4 hHeld ?_
     refine zk 5 hHeld ?_
     refine zk 6 hHeld ?_
     refine zk 7 hHeld ?_
     refine zr 8 fun K9 hK => ?_
     --%E
     go_simp
     refine (small_one_new Wd).mono ?_
     rintro e u1 ⟨hu1,ao1,k1,c1,rfl,n1,m1,hnw⟩
     have KU:=KT.trans hu1
     refine hK.out _ _ (sS.out _ (H5.out.1.trans KU)) (fun hHeld => ?_)
     clear hK
     refine zk 9 hHeld ?_
     have hAll:∀ q,(u4.ownBlock = some q ∨ u6.ownBlock = some q)→w.heap.size≤q∧q < Wd.heap.size:=fun q hq => by
      have h1:=HB.out.1.size
      have h2:=H.out.1.size
      have h3:=(J.out.1.trans KT).size
      rcases hq with hq | hq
      ·
       have:=HA.out q hq; omega
      ·
       have:=World.ownsRow.lt H5.out.2.1 q hq
       have h4:=KT.size
       omega
     have d1:DX (fun q => u4.ownBlock = some q ∨ u6.ownBlock = some q) 7000 u1 s (.slice zo zk9 zc) (M i j):=(H5.out.2.2.2.2.add.kept (H5.out.1.trans KU)).mono (fun q hq => .inr (hAll q hq).1) (by decide)
     have d2:DX (fun q => u4.ownBlock = some q ∨ u6.ownBlock = some q) 7000 u1 false (.slice ao1 k1 c1) 1:=dx_new n1 (by omega) hnw (fun q hq => (hAll q hq).2)
     have HD:=hid (And.intro (J.out.1.trans KU) (And.intro d1 d2))
     have hwsz:w4.heap.size≤u1.heap.size:=(J.out.1.trans KU).size
     have HKU:=hid KU
     clear d1 d2 hAll n1 hnw hu1 KU KT
     refine zr 10 fun K9 hK => ?_
     --%F
     go_simp
     have rT:=RowL.alloc 111 u1 [.bool s,.slice zo zk9 zc,.bool false,.slice ao1 k1 c1]
     have kA:=(Kept.refl u1).alloc (.cells #[.bool s,.slice zo zk9 zc,.bool false,.slice ao1 k1 c1] 111)
     refine hK.out _ _ (sS.out _ (H5.out.1.trans (HKU.out.trans kA))) (fun hHeld => ?_)
     clear hK
     obtain ⟨tt,htt⟩:∃ p,p = u1.heap.size:=⟨_,rfl⟩
     rw [← htt] at rT ⊢
     generalize u1.alloc (.cells #[.bool s,.slice zo zk9 zc,.bool false,.slice ao1 k1 c1] 111) = Wa at rT kA hHeld ⊢
     have hO:Wa.ownsRow w4.heap.size 111 4 u6 j xs:=own_keptK H5.out.2.1 (HKU.out.trans kA)
     have hsz:w4.heap.size≤Wa.heap.size:=(HD.out.1.trans kA).size
     refine zr 11 fun K9 hK => ?_
     --%G
     refine wp_append_lies _ (.tmp 26) (.tmp 36) 109 rfl w4.heap.size 111 i0 (.agg #[.bool false,.slice none 0 0,.bool false,.slice none 0 0]) 4 64 und_rfs hi0 hz0 hz1 hz2 rfl (by decide) u6 j xs rfl hO ⟨tt,0,none⟩ 1 1 [.bool s,.slice zo zk9 zc,.bool false,.slice ao1 k1 c1] rfl rfl (row_news4 rT) (by simp [Value.oneCell']) (by omega) (by unfold maxLen; omega) (by omega) hsz _ rfl ?_
     intro G cap6 wb hO6 hgr hG _
     have hP:=FO.snoc (A:=fun q => u4.ownBlock = some q) (zs:=M i) (fun q hq => Nat.lt_of_lt_of_le (HA.out q hq).2 hsz) xs H5.out.2.1.1 H5.out.2.2.1 (fun r hr => by
      obtain ⟨s,ao,m,c,t,bo,l,d,e1,e2,e3,e4,e5,e6⟩:=H5.out.2.2.2.1 r hr
      exact ⟨s,ao,m,c,t,bo,l,d,e1,e2,e3,e4,e5.kept (HKU.out.trans kA),e6.kept (HKU.out.trans kA)⟩) (HD.out.2.1.kept kA) (HD.out.2.2.kept kA) hO6 hgr hG
     have KW2:Kept w4 wb:=Below.grown (HD.out.1.trans kA) hgr hsz (fun q hq => (World.ownsRow.lt hO q hq).1)
     have HP:=hid (And.intro KW2 hP)
     refine hK.out _ _ (sS.out _ (HB.out.1.trans (H.out.1.trans KW2))) (fun hHeld => ?_)
     clear hK hP hO hO6 hgr hG rT kA KW2 htt
     refine X.zl fun K9 hK => ?_
     --%H
     go_simp
     refine hK.out _ _ ?_
     clear hK
     refine zd ?_
     --%I
     go_wp2_with fail
     go_roundw
     case rel => exact ⟨j + 1,by omega,by go_num,HP.out⟩
     case measure => show n - ((j:Int) + 1).toNat < n - (j:Int).toNat; omega
    ·
     have hjj:¬ (j:Int) < (n:Int):=by omega
     obtain rfl:j = n:=by omega
     obtain ⟨rb,rcp,hrv,hP,hrow⟩:=J.out.2.row (by omega)
     subst hrv
     obtain ⟨hs,bk,cp,ho,hx,hin⟩:=H.out.2
     have hlt:∀ r,r < i→bk r < w4.heap.size:=fun r hr => (hx r hr).2.2.1
     have ho:=own_keptK ho J.out.1
     have hx:∀ r,r < i→hs[r]? = some (.slice (some ⟨bk r,0,none⟩) j (cp r))∧wB.heap.size≤bk r∧FdX (fun q => u4.ownBlock = some q) (M r) w5 (bk r) j:=fun r hr => ⟨(hx r hr).1,(hx r hr).2.1,(hx r hr).2.2.kept J.out.1⟩
     have H5:=hid (And.intro (H.out.1.trans J.out.1) (And.intro ho (And.intro hx (And.intro hin (And.intro hrow (And.intro hP hlt))))))
     have hws:wB.heap.size≤w5.heap.size:=(H.out.1.trans J.out.1).size
     clear ho hx hin hrow hP hlt
     --%J
     go_wp2_with (at_builtin; refine wpList_append_lies _ rfl (.tmp 38) (.tmp 40) 108 rfl wB.heap.size 109 i1 (.slice none 0 0) 1 24 und_rfss hi1 hy0 hy1 hy2 rfl (by decide) u4 i hs rfl (by exact World.ownsRow.alloc H5.out.2.1 _) ⟨w5.heap.size,0,none⟩ 1 1 [.slice (some ⟨rb,0,none⟩) j rcp] rfl rfl (cell1 w5 _ _) (fun u hu => by simp at hu; rcases hu with rfl; rfl) (by omega) (by unfold maxLen; omega) (by omega) (by simp; omega) _ rfl ?_)
     intro G cap2 w7 hO hgr hG _
     have kA:=(Kept.refl w5).alloc (.cells #[.slice (some ⟨rb,0,none⟩) j rcp] 109)
     have hOw:=World.ownsRow.alloc H5.out.2.1 (.cells #[.slice (some ⟨rb,0,none⟩) j rcp] 109)
     have hG:u4.ownBlock = some G ∨ G = (w5.alloc (.cells #[.slice (some ⟨rb,0,none⟩) j rcp] 109)).heap.size:=hG.imp id fun e => by rw [World.size_alloc]; exact e
     generalize w5.alloc (.cells #[.slice (some ⟨rb,0,none⟩) j rcp] 109) = W5 at kA hgr hOw hG
     have KW:Kept wB w7:=Below.grown (H5.out.1.trans kA) hgr (H5.out.1.trans kA).size (fun q hq => (World.ownsRow.lt hOw q hq).1)
     have HNn:=hid (And.intro KW (RO.snoc (F:=M) (S:=w4.heap.size) hs bk cp (by have:=H5.out.2.1.1; omega) (fun r hr => ⟨(H5.out.2.2.1 r hr).1,(H5.out.2.2.1 r hr).2.1,(H5.out.2.2.1 r hr).2.2.kept kA⟩) H5.out.2.2.2.1 H5.out.2.2.2.2.2.2 H5.out.2.2.2.2.2.1 H.out.1.size (H5.out.2.2.2.2.1.kept kA) hO hgr hG))
     clear kA hOw hgr hO KW hG
     --%K
     go_wp2_with fail
     go_roundw
     case rel => exact ⟨i + 1,by omega,by go_num,HNn.out⟩
     case measure => show j - ((i:Int) + 1).toNat < j - (i:Int).toNat; omega
  ·
   have hii:¬ (i:Int) < (n:Int):=by omega
   obtain rfl:i = n:=by omega
   have hsq:∃ go cap,u4 = .slice go i cap∧(0 < i→∃ g bk cp,go = some ⟨g,0,none⟩∧FG wB w4 g i bk cp (fun a b => (M a b,1))):=by
    by_cases h0:i = 0
    ·
     obtain ⟨hs,_,_,ho,_⟩:=H.out.2
     obtain ⟨go,cap,e⟩:=own_shape ho
     exact ⟨go,cap,e,fun h => by omega⟩
    ·
     obtain ⟨g,cap,bk,cp,e,hg⟩:=H.out.2.square H.out.1 (by omega)
     exact ⟨_,cap,e,fun _ => ⟨g,bk,cp,rfl,hg⟩⟩
   obtain ⟨go,cap,rfl,hsq⟩:=hsq
   have H6:=hid (And.intro H.out.1 hsq)
   clear hsq
   --%L
   go_upto_region 12 with fail
   go_cut [8] (fun v8 wc => ∃ pd:Nat,v8 = .pointer (some ⟨pd,0,none⟩)∧Hid (Kept wB wc∧FB wc pd 1 1∧(0 < i→∃ g bk cp Z,go = some ⟨g,0,none⟩∧DS wB wc i 0 M g pd id 1 1 bk cp Z)))
   case first =>
    --%M
    go_wp2_with fail
    refine (of_one w4).mono ?_
    rintro e w2 ⟨hk,hO⟩
    obtain ⟨s0,ao0,k0,c0,t0,bo0,l0,d0,rfl,h1,h2,hl1,hl2⟩:=hO
    have rD:=RowL.alloc 111 w2 [.bool s0,.slice ao0 k0 c0,.bool t0,.slice bo0 l0 d0]
    have kD:=(Kept.refl w2).alloc (.cells #[.bool s0,.slice ao0 k0 c0,.bool t0,.slice bo0 l0 d0] 111)
    have hFB:FB (w2.alloc (.cells #[.bool s0,.slice ao0 k0 c0,.bool t0,.slice bo0 l0 d0] 111)) w2.heap.size 1 1:=⟨⟨s0,ao0,k0,c0,t0,bo0,l0,d0,rD.cell 0 _ rfl,rD.cell 1 _ rfl,rD.cell 2 _ rfl,rD.cell 3 _ rfl,h1.kept kD,h2.kept kD,hl1,hl2⟩,fun a => rD.fz a⟩
    have HE:=hid (show Kept wB (w2.alloc (.cells #[.bool s0,.slice ao0 k0 c0,.bool t0,.slice bo0 l0 d0] 111))∧FB (w2.alloc (.cells #[.bool s0,.slice ao0 k0 c0,.bool t0,.slice bo0 l0 d0] 111)) w2.heap.size 1 1∧(0 < i→∃ g bk cp Z,go = some ⟨g,0,none⟩∧DS wB (w2.alloc (.cells #[.bool s0,.slice ao0 k0 c0,.bool t0,.slice bo0 l0 d0] 111)) i 0 M g w2.heap.size id 1 1 bk cp Z) from ⟨H6.out.1.trans (hk.trans kD),hFB,fun h0 => by
     obtain ⟨g,bk,cp,e,hg⟩:=H6.out.2 h0
     exact ⟨g,bk,cp,_,e,DtI.start i M,hg.later (hk.trans kD),fun a b _ _ _ _ => low_int _,hFB,⟨Nat.lt_of_lt_of_le hg.lt hk.size,fun r hr => Nat.lt_of_lt_of_le (hg.base r hr).2.1 hk.size⟩,Nat.le_trans H6.out.1.size hk.size⟩⟩)
    clear rD hFB h1 h2 hl1 hl2 hk kD
    --%N
    go_wp2_with fail
    go_meet
    case rel => exact ⟨_,rfl,HE.out⟩
   case rest =>
   obtain ⟨pd,rfl,H7⟩:=hcut
   --%O
   rename_i hRest
   refine hRest _ _ ?_
   exact det14_tail HF hn HB H7
end Bp
end Go.Proofs.YtdcfammglpebaaaGreat
