/- Lemmas. -/
import Derived.Test.YthfbfbfambbkaaaGreatDoorTk
import Derived.Test.YthfbfbfambbkaaaGreatDoorGas
import Derived.Test.YthfbfbfambbkaaaGreatDoorGar
import Derived.Test.YthfbfbfambbkaaaGreatDoorGam
namespace Go.Proofs.YthfbfbfambbkaaaGreatDoor
open Go.RowKit
namespace V
open Q (hid' Row3 Row2 okN okN_bd Scl)
theorem refM_zero {s:List UInt8} {k:Int} {gs vs:List (Int × Int)} {i:Int} (h:refM s k gs vs i = 0):okM s k gs vs = true/\0<=i/\i < gs.length:=by
 unfold refM at h
 split at h
 ·
  next h1 =>
  split at h
  ·
   omega
  ·
   next h2 => exact ⟨h1,by omega,by omega⟩
 ·
  omega
theorem fits_len {k:Int} {n m:Nat} (h:fitsM k n m = true):n = m + 1/\n<=4:=by
 unfold fitsM at h
 split at h
 ·
  simpa using h
 ·
  split at h
  ·
   simp at h; omega
  ·
   cases h
open Go.Sort (grow) in
set_option maxRecDepth 100000 in
set_option maxHeartbeats 8000000 in
theorem sideM_any (s:ByteArray) (k:Int) (a1 a2:Option Addr) (n c m c':Nat) (gs vs:List (Int × Int)) (i':Int) (sg nA:Bool) (b1 b2:Option Addr) (k1 c1 k2 c2:Nat) (an ad:List Nat) (w:World) (hs:s.size<=9223372036854775807) (h1:NSl w (.slice a1 n c) gs) (h2:NSl w (.slice a2 m c') vs) (hn:n<=4611686018427387903) (hm:m<=4611686018427387903)
  (ha:Sl w (.slice b1 k1 c1) an) (had:Sl w (.slice b2 k2 c2) ad) (hla:an.length<=9223372036854775807) (hld:ad.length<=9223372036854775807) :
  Calls Tryz.prog 11 #[.agg #[.string s,.int .u8 k,.slice a1 n c,.slice a2 m c'],.int .i64 i',.agg #[.bool sg,.slice b1 k1 c1,.bool nA,.slice b2 k2 c2]] w fun e w' => Kept w w'/\∃ z f:Int,e = .returned (.tuple #[.int .i64 z,.int .i64 f])/\SideIs (refM s.data.toList k gs vs i') sg nA an ad vs i' z f:=by
 have HS:=hid' (And.intro h1 (And.intro h2 (And.intro ha (And.intro had (And.intro hla hld)))))
 clear h1 h2 ha had hla hld
 obtain ⟨rf,hrf⟩:∃ rf,rf = refM s.data.toList k gs vs i':=⟨_,rfl⟩
 rw [<- hrf]
 have HRE:=hid' hrf
 clear hrf
 go_enter Tryz.func11,Tryz.ntmps11
 go_upto_region 1 with fail
 have hM:=(Row4.alloc 24 w (.string s) (.int .u8 k) (.slice a1 n c) (.slice a2 m c')).kept ((Kept.refl (w.alloc (.cells #[.string s,.int .u8 k,.slice a1 n c,.slice a2 m c'] 24))).alloc (.cells #[.bool sg,.slice b1 k1 c1,.bool nA,.slice b2 k2 c2] 29))
 have hU:=F.RRow.alloc (w.alloc (.cells #[.string s,.int .u8 k,.slice a1 n c,.slice a2 m c'] 24)) (.bool sg) (.slice b1 k1 c1) (.bool nA) (.slice b2 k2 c2)
 have hK:=((Kept.refl w).alloc (.cells #[.string s,.int .u8 k,.slice a1 n c,.slice a2 m c'] 24)).alloc (.cells #[.bool sg,.slice b1 k1 c1,.bool nA,.slice b2 k2 c2] 29)
 rw [World.size_alloc] at hU
 generalize (w.alloc (.cells #[.string s,.int .u8 k,.slice a1 n c,.slice a2 m c'] 24)).alloc (.cells #[.bool sg,.slice b1 k1 c1,.bool nA,.slice b2 k2 c2] 29) = W at hM hU hK ⊢
 obtain ⟨q,hq⟩:∃ q,q = w.heap.size + 1:=⟨_,rfl⟩
 rw [<- hq] at hU ⊢
 obtain ⟨p,hp⟩:∃ q,q = w.heap.size:=⟨_,rfl⟩
 rw [<- hp] at hM ⊢
 clear hq hp
 have q0:=hM.c0
 have q1:=hM.c1
 have q2:=hM.c2
 have q3:=hM.c3
 have HK:=hid' (And.intro hK (And.intro hM hU))
 clear hK hM hU
 go_wp2_with fail
 refine (refusalM_any s k a1 a2 n c m c' gs vs i' _ hs (HS.out.1.kept HK.out.1) (HS.out.2.1.kept HK.out.1) hn hm).mono ?_
 rintro e w1 ⟨hk1,rfl⟩
 have HK:=hid' (And.intro (HK.out.1.trans hk1) (And.intro (HK.out.2.1.kept hk1) (HK.out.2.2.kept hk1)))
 clear hk1 q0 q1 q2 q3
 rw [<- HRE.out]
 have HOK:=hid' (fun (h:rf = 0) => refM_zero (s:=s.data.toList) (k:=k) (gs:=gs) (vs:=vs) (i:=i') (by rw [<- HRE.out]; exact h))
 clear HRE
 by_cases hr0:rf = 0
 ·
  have HOA:=hid' (okM_all (HOK.out hr0).1)
  have hi:=(HOK.out hr0).2
  have HRF:=hid' hr0
  clear HOK
  obtain ⟨i,rfl⟩:∃ i:Nat,i' = (i:Int):=⟨i'.toNat,by omega⟩
  have HL:=hid' (show m = vs.length/\n = gs.length/\n = m + 1/\i < n by
   have e1:=HS.out.1.len
   have e2:=HS.out.2.1.len
   have e3:=fits_len HOA.out.2.2.2
   exact ⟨e2,e1,by omega,by omega⟩)
  have him:(i:Int) < 4611686018427387904:=by have:=HL.out; omega
  have q0:=HK.out.2.2.c0
  have q1:=HK.out.2.2.c1
  have q2:=HK.out.2.2.c2
  have q3:=HK.out.2.2.c3
  have hr1:(rf == 0) = true:=by simpa using hr0
  clear hi
  go_wp2_with fail
  refine (F.Check_any sg nA b1 b2 k1 c1 k2 c2 an ad _ (HS.out.2.2.1.kept HK.out.1) (HS.out.2.2.2.1.kept HK.out.1) HS.out.2.2.2.2.1 HS.out.2.2.2.2.2).mono ?_
  rintro e w2 ⟨hk2,cc,rfl,hcc⟩
  have HK:=hid' (And.intro (HK.out.1.trans hk2) (And.intro (HK.out.2.1.kept hk2) (HK.out.2.2.kept hk2)))
  clear hk2 q0 q1 q2 q3
  have HCC:=hid' hcc
  clear hcc
  by_cases hc0:cc = 0
  ·
   subst hc0
   have HR:=hid' (refused_rat HCC.out)
   by_cases hi0:i = 0
   ·
    subst hi0
    have hml:=HK.out.2.1.lt
    have c3':=HK.out.2.1.c3
    go_upto_region 7 with fail
    have KR:Kept w2 w2.drew:=(Kept.refl _).drew
    have sS:=hid' (fun (V:World) (K:Kept w2 V) => (show V.cell? ⟨p,3,none⟩ = some (.slice a2 m c') from (Below.cell K (p:=⟨p,3,none⟩) hml).trans c3'))
    clear c3' hml
    refine wp_region_held_drew (S:=fun w' => w'.cell? ⟨p,3,none⟩ = some (.slice a2 m c')) (by kernel_rfl) (sS.out _ KR) (fun hHeld => ?_)
    generalize hWd:w2.drew = W3 at KR hHeld ⊢
    clear hWd
    refine tk 0 hHeld ?_
    refine tk 1 hHeld ?_
    refine tk 2 hHeld ?_
    refine sk 3 hHeld ?_
    refine sk 4 hHeld ?_
    refine sk 5 hHeld ?_
    refine sk 6 hHeld ?_
    refine sk 7 hHeld ?_
    refine sk 8 hHeld ?_
    refine sk 9 hHeld ?_
    refine sk 10 hHeld ?_
    refine sk 11 hHeld ?_
    refine tk 12 hHeld ?_
    refine tk 13 hHeld ?_
    refine dn ?_
    have HK:=hid' (And.intro (HK.out.1.trans KR) (And.intro (HK.out.2.1.kept KR) (HK.out.2.2.kept KR)))
    clear KR sS hHeld
    by_cases him:0 < vs.length
    ·
     have HIM:=hid' him
     have him':(0:Int) < (m:Int):=by have:=HL.out; omega
     have him2:0 < m:=by omega
     clear him
     obtain ⟨ao',cap',hv,hx⟩:=HS.out.2.1.kept HK.out.1
     simp only [Value.slice.injEq] at hv
     obtain ⟨rfl,hq',rfl⟩:=hv
     obtain ⟨b,off,rfl,hb,hc⟩:=hx (by have:=HL.out; omega)
     obtain ⟨d0,d1⟩:=hc (0) (by have:=HL.out; omega)
     rw [Nat.zero_mul,Nat.add_zero] at d0 d1
     have ok1:okN (vs.getD (0) (0,0)).1 (vs.getD (0) (0,0)).2 = true:=HOA.out.2.1 _ (by
      rw [List.getD_eq_getElem?_getD,List.getElem?_eq_getElem (by have:=HL.out; omega)]
      exact List.getElem_mem (by have:=HL.out; omega))
     obtain ⟨x,hX⟩:∃ x,x = vs.getD (0) (0,0):=⟨_,rfl⟩
     rw [<- hX] at d0 d1 ok1
     have HX:=hid' hX
     obtain ⟨x0,x1⟩:=x
     dsimp only at d0 d1 ok1
     have hu:=HK.out.2.2
     have hml:=HK.out.2.1.lt
     have c3':=HK.out.2.1.c3
     have hul:=hu.lt
     clear hq' hx hc hX
     go_upto_region 9 with fail
     have KR:Kept W3 W3.drew:=(Kept.refl _).drew
     have sS:=hid' (fun (V:World) (K:Kept W3 V) => (show V.cell? ⟨p,3,none⟩ = some (.slice (some ⟨b,off,none⟩) m c')/\V.cell? ⟨b,off,none⟩ = some (.int .i64 x0)/\V.cell? ⟨b,off + 1,none⟩ = some (.int .i64 x1)/\V.cell? ⟨q,0,none⟩ = some (.bool sg)/\V.cell? ⟨q,1,none⟩ = some (.slice b1 k1 c1)/\V.cell? ⟨q,2,none⟩ = some (.bool nA)/\V.cell? ⟨q,3,none⟩ = some (.slice b2 k2 c2) from ⟨(Below.cell K (p:=⟨p,3,none⟩) hml).trans c3',(Below.cell K (p:=⟨b,off,none⟩) hb).trans d0,(Below.cell K (p:=⟨b,off + 1,none⟩) hb).trans d1,(Below.cell K (p:=⟨q,0,none⟩) hul).trans hu.c0,(Below.cell K (p:=⟨q,1,none⟩) hul).trans hu.c1,(Below.cell K (p:=⟨q,2,none⟩) hul).trans hu.c2,(Below.cell K (p:=⟨q,3,none⟩) hul).trans hu.c3⟩))
     clear c3' d0 d1 hb hu hml hul
     refine wp_region_held_drew (S:=fun w' => w'.cell? ⟨p,3,none⟩ = some (.slice (some ⟨b,off,none⟩) m c')/\w'.cell? ⟨b,off,none⟩ = some (.int .i64 x0)/\w'.cell? ⟨b,off + 1,none⟩ = some (.int .i64 x1)/\w'.cell? ⟨q,0,none⟩ = some (.bool sg)/\w'.cell? ⟨q,1,none⟩ = some (.slice b1 k1 c1)/\w'.cell? ⟨q,2,none⟩ = some (.bool nA)/\w'.cell? ⟨q,3,none⟩ = some (.slice b2 k2 c2)) (by kernel_rfl) (sS.out _ KR) (fun hHeld => ?_)
     generalize W3.drew = Wd at KR hHeld ⊢
     refine tk 0 hHeld ?_
     refine tk 1 hHeld ?_
     refine tk 2 hHeld ?_
     refine tk 3 hHeld ?_
     refine tk 4 hHeld ?_
     refine tk 5 hHeld ?_
     refine tk 6 hHeld ?_
     refine tk 7 hHeld ?_
     refine tk 8 hHeld ?_
     refine tk 9 hHeld ?_
     refine tk 10 hHeld ?_
     refine tk 11 hHeld ?_
     refine rdy 12 fun K hK => ?_
     go_simp
     refine (against_any sg nA b1 b2 k1 c1 k2 c2 an ad x0 x1 _ (HS.out.2.2.1.kept (HK.out.1.trans KR)) (HS.out.2.2.2.1.kept (HK.out.1.trans KR)) HR.out ok1).mono ?_
     rintro e W4 ⟨hkq,rfl⟩
     obtain ⟨ag2,hag⟩:∃ ag,ag = agn (M.int sg an) (M.val ad) (x0,x1):=⟨_,rfl⟩
     rw [<- hag]
     have Hag2:=hid' (show ag2 = agn (M.int sg an) (M.val ad) (vs.getD (0) (0,0)) by rw [hag,HX.out])
     have KR:=KR.trans hkq
     refine hK.out _ _ (sS.out _ KR) (fun hHeld => ?_)
     have HK:=hid' (And.intro (HK.out.1.trans KR) (And.intro (HK.out.2.1.kept KR) (HK.out.2.2.kept KR)))
     clear hK K hkq hag ok1 HX KR sS
     by_cases g2:0 < ag2
     ·
      have HG2:=hid' g2
      refine tk 13 hHeld ?_
      refine tk 14 hHeld ?_
      refine tk 15 hHeld ?_
      refine dn ?_
      clear hHeld
      go_wp2_with fail
      go_ret2
      exact ⟨HK.out.1,1,0,rfl,.inr ⟨by first | exact HRF.out | rfl,0,HCC.out,.inr ⟨rfl,rfl,by (first | rw [Int.toNat_natCast] | rw [Int.toNat_zero] | rw [show ((i0:Int) + 1).toNat = i0 + 1 by omega]); unfold sideS; rw [if_neg (fun h => absurd h.1 (by omega)),if_pos ⟨HIM.out,by rw [<- Hag2.out]; exact HG2.out⟩]⟩⟩⟩
     ·
      have HG2:=hid' g2
      refine tk 13 hHeld ?_
      refine tk 14 hHeld ?_
      refine tk 15 hHeld ?_
      refine dn ?_
      clear hHeld
      go_wp2_with fail
      go_ret2
      exact ⟨HK.out.1,0,0,rfl,.inr ⟨by first | exact HRF.out | rfl,0,HCC.out,.inr ⟨rfl,rfl,by (first | rw [Int.toNat_natCast] | rw [Int.toNat_zero] | rw [show ((i0:Int) + 1).toNat = i0 + 1 by omega]); unfold sideS; rw [if_neg (fun h => absurd h.1 (by omega)),if_neg (fun h => by have:=HG2.out; have h2:=h.2; rw [<- Hag2.out] at h2; omega)]⟩⟩⟩
    ·
     have HIM:=hid' him
     have him':¬ (0:Int) < (m:Int):=by have:=HL.out; omega
     have him2:¬ 0 < m:=by omega
     clear him
     have hml:=HK.out.2.1.lt
     have c3':=HK.out.2.1.c3
     go_upto_region 9 with fail
     have KR:Kept W3 W3.drew:=(Kept.refl _).drew
     have sS:=hid' (fun (V:World) (K:Kept W3 V) => (show V.cell? ⟨p,3,none⟩ = some (.slice a2 m c') from (Below.cell K (p:=⟨p,3,none⟩) hml).trans c3'))
     clear c3' hml
     refine wp_region_held_drew (S:=fun w' => w'.cell? ⟨p,3,none⟩ = some (.slice a2 m c')) (by kernel_rfl) (sS.out _ KR) (fun hHeld => ?_)
     generalize hWd:W3.drew = W4 at KR hHeld ⊢
     clear hWd
     refine tk 0 hHeld ?_
     refine tk 1 hHeld ?_
     refine tk 2 hHeld ?_
     refine tk 3 hHeld ?_
     refine tk 4 hHeld ?_
     refine tk 5 hHeld ?_
     refine sk 6 hHeld ?_
     refine sk 7 hHeld ?_
     refine sk 8 hHeld ?_
     refine sk 9 hHeld ?_
     refine sk 10 hHeld ?_
     refine sk 11 hHeld ?_
     refine sk 12 hHeld ?_
     refine sk 13 hHeld ?_
     refine tk 14 hHeld ?_
     refine tk 15 hHeld ?_
     refine dn ?_
     have HK:=hid' (And.intro (HK.out.1.trans KR) (And.intro (HK.out.2.1.kept KR) (HK.out.2.2.kept KR)))
     clear KR sS hHeld
     go_wp2_with fail
     go_ret2
     exact ⟨HK.out.1,0,0,rfl,.inr ⟨by first | exact HRF.out | rfl,0,HCC.out,.inr ⟨rfl,rfl,by (first | rw [Int.toNat_natCast] | rw [Int.toNat_zero] | rw [show ((i0:Int) + 1).toNat = i0 + 1 by omega]); unfold sideS; rw [if_neg (fun h => absurd h.1 (by omega)),if_neg (fun h => HIM.out h.1)]⟩⟩⟩
   ·
    obtain ⟨i0,rfl⟩:∃ i0,i = i0 + 1:=⟨i - 1,by omega⟩
    have ec:((i0 + 1:Nat):Int) = (i0:Int) + 1:=by omega
    rw [ec]
    have hi1:(0:Int) < (i0:Int) + 1:=by omega
    have hi2:(i0:Int) + 1 - 1 = (i0:Int):=by omega
    have hi3:IntKind.i64.wrap (i0:Int) = (i0:Int):=by rw [IntKind.wrap_i64]; omega
    have hi5:(i0:Int) < (m:Int):=by have:=HL.out; omega
    have hi6:((i0:Int) + 1).toNat = i0 + 1:=by omega
    have hi7:(0:Int)<=(i0:Int) + 1:=by omega
    clear hi0 ec
    obtain ⟨ao',cap',hv,hx⟩:=HS.out.2.1.kept HK.out.1
    simp only [Value.slice.injEq] at hv
    obtain ⟨rfl,hq',rfl⟩:=hv
    obtain ⟨b,off,rfl,hb,hc⟩:=hx (by have:=HL.out; omega)
    obtain ⟨d0,d1⟩:=hc (i0) (by have:=HL.out; omega)
    have ok1:okN (vs.getD (i0) (0,0)).1 (vs.getD (i0) (0,0)).2 = true:=HOA.out.2.1 _ (by
     rw [List.getD_eq_getElem?_getD,List.getElem?_eq_getElem (by have:=HL.out; omega)]
     exact List.getElem_mem (by have:=HL.out; omega))
    obtain ⟨x,hX⟩:∃ x,x = vs.getD (i0) (0,0):=⟨_,rfl⟩
    rw [<- hX] at d0 d1 ok1
    have HX:=hid' hX
    obtain ⟨x0,x1⟩:=x
    dsimp only at d0 d1 ok1
    have hu:=HK.out.2.2
    have hml:=HK.out.2.1.lt
    have c3':=HK.out.2.1.c3
    have hul:=hu.lt
    clear hq' hx hc hX
    go_upto_region 7 with fail
    have KR:Kept w2 w2.drew:=(Kept.refl _).drew
    have sS:=hid' (fun (V:World) (K:Kept w2 V) => (show V.cell? ⟨p,3,none⟩ = some (.slice (some ⟨b,off,none⟩) m c')/\V.cell? ⟨b,off + (i0) * 2,none⟩ = some (.int .i64 x0)/\V.cell? ⟨b,off + (i0) * 2 + 1,none⟩ = some (.int .i64 x1)/\V.cell? ⟨q,0,none⟩ = some (.bool sg)/\V.cell? ⟨q,1,none⟩ = some (.slice b1 k1 c1)/\V.cell? ⟨q,2,none⟩ = some (.bool nA)/\V.cell? ⟨q,3,none⟩ = some (.slice b2 k2 c2) from ⟨(Below.cell K (p:=⟨p,3,none⟩) hml).trans c3',(Below.cell K (p:=⟨b,off + (i0) * 2,none⟩) hb).trans d0,(Below.cell K (p:=⟨b,off + (i0) * 2 + 1,none⟩) hb).trans d1,(Below.cell K (p:=⟨q,0,none⟩) hul).trans hu.c0,(Below.cell K (p:=⟨q,1,none⟩) hul).trans hu.c1,(Below.cell K (p:=⟨q,2,none⟩) hul).trans hu.c2,(Below.cell K (p:=⟨q,3,none⟩) hul).trans hu.c3⟩))
    clear c3' d0 d1 hb hu hml hul
    refine wp_region_held_drew (S:=fun w' => w'.cell? ⟨p,3,none⟩ = some (.slice (some ⟨b,off,none⟩) m c')/\w'.cell? ⟨b,off + (i0) * 2,none⟩ = some (.int .i64 x0)/\w'.cell? ⟨b,off + (i0) * 2 + 1,none⟩ = some (.int .i64 x1)/\w'.cell? ⟨q,0,none⟩ = some (.bool sg)/\w'.cell? ⟨q,1,none⟩ = some (.slice b1 k1 c1)/\w'.cell? ⟨q,2,none⟩ = some (.bool nA)/\w'.cell? ⟨q,3,none⟩ = some (.slice b2 k2 c2)) (by kernel_rfl) (sS.out _ KR) (fun hHeld => ?_)
    generalize w2.drew = Wd at KR hHeld ⊢
    refine tk 0 hHeld ?_
    refine tk 1 hHeld ?_
    refine tk 2 hHeld ?_
    refine tk 3 hHeld ?_
    refine tk 4 hHeld ?_
    refine tk 5 hHeld ?_
    refine tk 6 hHeld ?_
    refine tk 7 hHeld ?_
    refine tk 8 hHeld ?_
    refine tk 9 hHeld ?_
    refine rdy 10 fun K hK => ?_
    go_simp
    refine (against_any sg nA b1 b2 k1 c1 k2 c2 an ad x0 x1 _ (HS.out.2.2.1.kept (HK.out.1.trans KR)) (HS.out.2.2.2.1.kept (HK.out.1.trans KR)) HR.out ok1).mono ?_
    rintro e W3 ⟨hkq,rfl⟩
    obtain ⟨ag1,hag⟩:∃ ag,ag = agn (M.int sg an) (M.val ad) (x0,x1):=⟨_,rfl⟩
    rw [<- hag]
    have Hag1:=hid' (show ag1 = agn (M.int sg an) (M.val ad) (vs.getD (i0) (0,0)) by rw [hag,HX.out])
    have KR:=KR.trans hkq
    refine hK.out _ _ (sS.out _ KR) (fun hHeld => ?_)
    have HK:=hid' (And.intro (HK.out.1.trans KR) (And.intro (HK.out.2.1.kept KR) (HK.out.2.2.kept KR)))
    clear hK K hkq hag ok1 HX KR sS
    by_cases g1:ag1 < 0
    ·
     have HG1:=hid' g1
     clear hi1 hi2 hi3 hi5 hi6 hi7
     refine tk 11 hHeld ?_
     refine tk 12 hHeld ?_
     refine tk 13 hHeld ?_
     refine dn ?_
     clear hHeld
     go_wp2_with fail
     go_ret2
     exact ⟨HK.out.1,-1,0,rfl,.inr ⟨by first | exact HRF.out | rfl,0,HCC.out,.inr ⟨rfl,rfl,by (first | rw [Int.toNat_natCast] | rw [Int.toNat_zero] | rw [show ((i0:Int) + 1).toNat = i0 + 1 by omega]); unfold sideS; rw [if_pos ⟨Nat.succ_pos _,by rw [Nat.add_sub_cancel,<- Hag1.out]; exact HG1.out⟩]⟩⟩⟩
    ·
     have HG1:=hid' g1
     refine tk 11 hHeld ?_
     refine tk 12 hHeld ?_
     refine tk 13 hHeld ?_
     refine dn ?_
     clear hHeld
     by_cases him:i0 + 1 < vs.length
     ·
      have HIM:=hid' him
      have him':(i0:Int) + 1 < (m:Int):=by have:=HL.out; omega
      clear him
      obtain ⟨ao',cap',hv,hx⟩:=HS.out.2.1.kept HK.out.1
      simp only [Value.slice.injEq] at hv
      obtain ⟨rfl,hq',rfl⟩:=hv
      obtain ⟨b',off',hbo,hb,hc⟩:=hx (by have:=HL.out; omega)
      simp only [Option.some.injEq,Addr.mk.injEq,and_true] at hbo
      obtain ⟨rfl,rfl⟩:=hbo
      obtain ⟨d0,d1⟩:=hc (i0 + 1) (by have:=HL.out; omega)
      have ok1:okN (vs.getD (i0 + 1) (0,0)).1 (vs.getD (i0 + 1) (0,0)).2 = true:=HOA.out.2.1 _ (by
       rw [List.getD_eq_getElem?_getD,List.getElem?_eq_getElem (by have:=HL.out; omega)]
       exact List.getElem_mem (by have:=HL.out; omega))
      obtain ⟨x,hX⟩:∃ x,x = vs.getD (i0 + 1) (0,0):=⟨_,rfl⟩
      rw [<- hX] at d0 d1 ok1
      have HX:=hid' hX
      obtain ⟨x0,x1⟩:=x
      dsimp only at d0 d1 ok1
      have hu:=HK.out.2.2
      have hml:=HK.out.2.1.lt
      have c3':=HK.out.2.1.c3
      have hul:=hu.lt
      clear hq' hx hc hX
      go_upto_region 9 with fail
      have KR:Kept W3 W3.drew:=(Kept.refl _).drew
      have sS:=hid' (fun (V:World) (K:Kept W3 V) => (show V.cell? ⟨p,3,none⟩ = some (.slice (some ⟨b,off,none⟩) m c')/\V.cell? ⟨b,off + (i0 + 1) * 2,none⟩ = some (.int .i64 x0)/\V.cell? ⟨b,off + (i0 + 1) * 2 + 1,none⟩ = some (.int .i64 x1)/\V.cell? ⟨q,0,none⟩ = some (.bool sg)/\V.cell? ⟨q,1,none⟩ = some (.slice b1 k1 c1)/\V.cell? ⟨q,2,none⟩ = some (.bool nA)/\V.cell? ⟨q,3,none⟩ = some (.slice b2 k2 c2) from ⟨(Below.cell K (p:=⟨p,3,none⟩) hml).trans c3',(Below.cell K (p:=⟨b,off + (i0 + 1) * 2,none⟩) hb).trans d0,(Below.cell K (p:=⟨b,off + (i0 + 1) * 2 + 1,none⟩) hb).trans d1,(Below.cell K (p:=⟨q,0,none⟩) hul).trans hu.c0,(Below.cell K (p:=⟨q,1,none⟩) hul).trans hu.c1,(Below.cell K (p:=⟨q,2,none⟩) hul).trans hu.c2,(Below.cell K (p:=⟨q,3,none⟩) hul).trans hu.c3⟩))
      clear c3' d0 d1 hb hu hml hul
      refine wp_region_held_drew (S:=fun w' => w'.cell? ⟨p,3,none⟩ = some (.slice (some ⟨b,off,none⟩) m c')/\w'.cell? ⟨b,off + (i0 + 1) * 2,none⟩ = some (.int .i64 x0)/\w'.cell? ⟨b,off + (i0 + 1) * 2 + 1,none⟩ = some (.int .i64 x1)/\w'.cell? ⟨q,0,none⟩ = some (.bool sg)/\w'.cell? ⟨q,1,none⟩ = some (.slice b1 k1 c1)/\w'.cell? ⟨q,2,none⟩ = some (.bool nA)/\w'.cell? ⟨q,3,none⟩ = some (.slice b2 k2 c2)) (by kernel_rfl) (sS.out _ KR) (fun hHeld => ?_)
      generalize W3.drew = Wd at KR hHeld ⊢
      refine tk 0 hHeld ?_
      refine tk 1 hHeld ?_
      refine tk 2 hHeld ?_
      refine tk 3 hHeld ?_
      refine tk 4 hHeld ?_
      refine tk 5 hHeld ?_
      refine tk 6 hHeld ?_
      refine tk 7 hHeld ?_
      refine tk 8 hHeld ?_
      refine tk 9 hHeld ?_
      refine tk 10 hHeld ?_
      refine tk 11 hHeld ?_
      refine rdy 12 fun K hK => ?_
      go_simp
      refine (against_any sg nA b1 b2 k1 c1 k2 c2 an ad x0 x1 _ (HS.out.2.2.1.kept (HK.out.1.trans KR)) (HS.out.2.2.2.1.kept (HK.out.1.trans KR)) HR.out ok1).mono ?_
      rintro e W4 ⟨hkq,rfl⟩
      obtain ⟨ag2,hag⟩:∃ ag,ag = agn (M.int sg an) (M.val ad) (x0,x1):=⟨_,rfl⟩
      rw [<- hag]
      have Hag2:=hid' (show ag2 = agn (M.int sg an) (M.val ad) (vs.getD (i0 + 1) (0,0)) by rw [hag,HX.out])
      have KR:=KR.trans hkq
      refine hK.out _ _ (sS.out _ KR) (fun hHeld => ?_)
      have HK:=hid' (And.intro (HK.out.1.trans KR) (And.intro (HK.out.2.1.kept KR) (HK.out.2.2.kept KR)))
      clear hK K hkq hag ok1 HX KR sS
      by_cases g2:0 < ag2
      ·
       have HG2:=hid' g2
       refine tk 13 hHeld ?_
       refine tk 14 hHeld ?_
       refine tk 15 hHeld ?_
       refine dn ?_
       clear hHeld
       go_wp2_with fail
       go_ret2
       exact ⟨HK.out.1,1,0,rfl,.inr ⟨by first | exact HRF.out | rfl,0,HCC.out,.inr ⟨rfl,rfl,by (first | rw [Int.toNat_natCast] | rw [Int.toNat_zero] | rw [show ((i0:Int) + 1).toNat = i0 + 1 by omega]); unfold sideS; rw [if_neg (fun h => by have:=HG1.out; have h2:=h.2; rw [Nat.add_sub_cancel,<- Hag1.out] at h2; omega),if_pos ⟨HIM.out,by rw [<- Hag2.out]; exact HG2.out⟩]⟩⟩⟩
      ·
       have HG2:=hid' g2
       refine tk 13 hHeld ?_
       refine tk 14 hHeld ?_
       refine tk 15 hHeld ?_
       refine dn ?_
       clear hHeld
       go_wp2_with fail
       go_ret2
       exact ⟨HK.out.1,0,0,rfl,.inr ⟨by first | exact HRF.out | rfl,0,HCC.out,.inr ⟨rfl,rfl,by (first | rw [Int.toNat_natCast] | rw [Int.toNat_zero] | rw [show ((i0:Int) + 1).toNat = i0 + 1 by omega]); unfold sideS; rw [if_neg (fun h => by have:=HG1.out; have h2:=h.2; rw [Nat.add_sub_cancel,<- Hag1.out] at h2; omega),if_neg (fun h => by have:=HG2.out; have h2:=h.2; rw [<- Hag2.out] at h2; omega)]⟩⟩⟩
     ·
      have HIM:=hid' him
      have him':¬ (i0:Int) + 1 < (m:Int):=by have:=HL.out; omega
      clear him
      have hml:=HK.out.2.1.lt
      have c3':=HK.out.2.1.c3
      go_upto_region 9 with fail
      have KR:Kept W3 W3.drew:=(Kept.refl _).drew
      have sS:=hid' (fun (V:World) (K:Kept W3 V) => (show V.cell? ⟨p,3,none⟩ = some (.slice (some ⟨b,off,none⟩) m c') from (Below.cell K (p:=⟨p,3,none⟩) hml).trans c3'))
      clear c3' hml
      refine wp_region_held_drew (S:=fun w' => w'.cell? ⟨p,3,none⟩ = some (.slice (some ⟨b,off,none⟩) m c')) (by kernel_rfl) (sS.out _ KR) (fun hHeld => ?_)
      generalize hWd:W3.drew = W4 at KR hHeld ⊢
      clear hWd
      refine tk 0 hHeld ?_
      refine tk 1 hHeld ?_
      refine tk 2 hHeld ?_
      refine tk 3 hHeld ?_
      refine tk 4 hHeld ?_
      refine tk 5 hHeld ?_
      refine sk 6 hHeld ?_
      refine sk 7 hHeld ?_
      refine sk 8 hHeld ?_
      refine sk 9 hHeld ?_
      refine sk 10 hHeld ?_
      refine sk 11 hHeld ?_
      refine sk 12 hHeld ?_
      refine sk 13 hHeld ?_
      refine tk 14 hHeld ?_
      refine tk 15 hHeld ?_
      refine dn ?_
      have HK:=hid' (And.intro (HK.out.1.trans KR) (And.intro (HK.out.2.1.kept KR) (HK.out.2.2.kept KR)))
      clear KR sS hHeld
      go_wp2_with fail
      go_ret2
      exact ⟨HK.out.1,0,0,rfl,.inr ⟨by first | exact HRF.out | rfl,0,HCC.out,.inr ⟨rfl,rfl,by (first | rw [Int.toNat_natCast] | rw [Int.toNat_zero] | rw [show ((i0:Int) + 1).toNat = i0 + 1 by omega]); unfold sideS; rw [if_neg (fun h => by have:=HG1.out; have h2:=h.2; rw [Nat.add_sub_cancel,<- Hag1.out] at h2; omega),if_neg (fun h => HIM.out h.1)]⟩⟩⟩
  ·
   clear him hr1
   go_wp2_with fail
   go_ret2
   exact ⟨HK.out.1,0,cc,rfl,.inr ⟨HRF.out,cc,HCC.out,.inl ⟨hc0,rfl,rfl⟩⟩⟩
 ·
  go_wp2_with fail
  go_ret2
  exact ⟨HK.out.1,0,rf,rfl,.inl ⟨hr0,rfl,rfl⟩⟩
open Q (okN okN_bd Scl RQ hid' Row3 Row2)
theorem refM_zero' {s:List UInt8} {k:Int} {gs vs:List (Int × Int)} {i:Int} (h:refM s k gs vs i = 0):okM s k gs vs = true/\0<=i/\i < gs.length:=by
 unfold refM at h
 split at h
 ·
  next h1 =>
  split at h
  ·
   omega
  ·
   next h2 => exact ⟨h1,by omega,by omega⟩
 ·
  omega
theorem fits_len' {k:Int} {n m:Nat} (h:fitsM k n m = true):n = m + 1/\n<=4:=by
 unfold fitsM at h
 split at h
 ·
  simpa using h
 ·
  split at h
  ·
   simp at h; omega
  ·
   cases h
theorem at_ok {l:List (Int × Int)} (h:∀ q ∈ l,okN q.1 q.2 = true) {i:Nat} (hi:i < l.length):okN (l.getD i (0,0)).1 (l.getD i (0,0)).2 = true:=h _ (by
 rw [List.getD_eq_getElem?_getD,List.getElem?_eq_getElem hi]
 exact List.getElem_mem hi)
def PartIs (B:Nat) (w':World) (e:Ending) (rf kd:Int) (gs vs:List (Int × Int)) (i:Int):Prop :=
 (¬ rf = 0/\e = .returned (.tuple #[.agg #[.bool false,.slice none 0 0,.bool false,.slice none 0 0],.agg #[.bool false,.slice none 0 0,.bool false,.slice none 0 0],.int .i64 rf])) ∨ (rf = 0/\∃ u v,e = .returned (.tuple #[u,v,.int .i64 0])/\RT B w' u (U (gs.getD i.toNat (0,0)).1 (gs.getD i.toNat (0,0)).2) (10 ^ 18)/\RT B w' v (ownK kd gs vs i.toNat) (10 ^ 54))
set_option maxRecDepth 100000 in
set_option maxHeartbeats 8000000 in
theorem partM_any (s:ByteArray) (kd:Int) (a1 a2:Option Addr) (n c m c':Nat) (gs vs:List (Int × Int)) (i':Int) (w:World) (hs:s.size<=9223372036854775807) (h1:NSl w (.slice a1 n c) gs) (h2:NSl w (.slice a2 m c') vs) (hn:n<=4611686018427387903) (hm:m<=4611686018427387903) :
  Calls Tryz.prog 9 #[.agg #[.string s,.int .u8 kd,.slice a1 n c,.slice a2 m c'],.int .i64 i'] w fun e w' => Kept w w'/\PartIs w.heap.size w' e (refM s.data.toList kd gs vs i') kd gs vs i':=by
 have HS:=hid' (And.intro h1 h2)
 clear h1 h2
 obtain ⟨rf,hrf⟩:∃ rf,rf = refM s.data.toList kd gs vs i':=⟨_,rfl⟩
 rw [<- hrf]
 have HRE:=hid' hrf
 clear hrf
 go_enter Tryz.func9,Tryz.ntmps9
 go_upto_region 1 with fail
 have kz1:=(Kept.refl (w.alloc (.cells #[.string s,.int .u8 kd,.slice a1 n c,.slice a2 m c'] 24))).alloc (.cells #[.bool false,.slice none 0 0,.bool false,.slice none 0 0] 29)
 have kz2:=(Kept.refl ((w.alloc (.cells #[.string s,.int .u8 kd,.slice a1 n c,.slice a2 m c'] 24)).alloc (.cells #[.bool false,.slice none 0 0,.bool false,.slice none 0 0] 29))).alloc (.cells #[.bool false,.slice none 0 0,.bool false,.slice none 0 0] 29)
 have hM:=(Row4.alloc 24 w (.string s) (.int .u8 kd) (.slice a1 n c) (.slice a2 m c')).kept (kz1.trans kz2)
 have hZ4:=(F.RRow.alloc (w.alloc (.cells #[.string s,.int .u8 kd,.slice a1 n c,.slice a2 m c'] 24)) (.bool false) (.slice none 0 0) (.bool false) (.slice none 0 0)).kept kz2
 have hZ5:=F.RRow.alloc ((w.alloc (.cells #[.string s,.int .u8 kd,.slice a1 n c,.slice a2 m c'] 24)).alloc (.cells #[.bool false,.slice none 0 0,.bool false,.slice none 0 0] 29)) (.bool false) (.slice none 0 0) (.bool false) (.slice none 0 0)
 have hK:=((Kept.refl w).alloc (.cells #[.string s,.int .u8 kd,.slice a1 n c,.slice a2 m c'] 24)).trans (kz1.trans kz2)
 rw [World.size_alloc] at hZ4
 rw [World.size_alloc,World.size_alloc] at hZ5
 clear kz1 kz2
 generalize ((w.alloc (.cells #[.string s,.int .u8 kd,.slice a1 n c,.slice a2 m c'] 24)).alloc (.cells #[.bool false,.slice none 0 0,.bool false,.slice none 0 0] 29)).alloc (.cells #[.bool false,.slice none 0 0,.bool false,.slice none 0 0] 29) = W at hM hZ4 hZ5 hK ⊢
 obtain ⟨q5,hq5⟩:∃ q,q = w.heap.size + 1 + 1:=⟨_,rfl⟩
 rw [<- hq5] at hZ5 ⊢
 obtain ⟨q4,hq4⟩:∃ q,q = w.heap.size + 1:=⟨_,rfl⟩
 rw [<- hq4] at hZ4 ⊢
 obtain ⟨p,hp⟩:∃ q,q = w.heap.size:=⟨_,rfl⟩
 rw [<- hp] at hM ⊢
 have HQ4:=hid' (show w.heap.size<=q4 by omega)
 have HQ5:=hid' (show w.heap.size<=q5 by omega)
 have HN45:=hid' (show q5 ≠ q4/\p ≠ q4/\p ≠ q5 by omega)
 have n45:¬ q5 = q4:=by omega
 have n54:¬ q4 = q5:=by omega
 clear hq5 hq4 hp
 have q0:=hM.c0
 have q1:=hM.c1
 have q2:=hM.c2
 have q3:=hM.c3
 have HK:=hid' (And.intro hK (And.intro hM (And.intro hZ4 hZ5)))
 clear hK hM hZ4 hZ5
 go_wp2_with fail
 refine (refusalM_any s kd a1 a2 n c m c' gs vs i' _ hs (HS.out.1.kept HK.out.1) (HS.out.2.kept HK.out.1) hn hm).mono ?_
 rintro e w1 ⟨hk1,rfl⟩
 have HK:=hid' (And.intro (HK.out.1.trans hk1) (And.intro (HK.out.2.1.kept hk1) (And.intro (HK.out.2.2.1.kept hk1) (HK.out.2.2.2.kept hk1))))
 clear hk1 q0 q1 q2 q3
 rw [<- HRE.out]
 have HOK:=hid' (fun (h:rf = 0) => refM_zero' (s:=s.data.toList) (k:=kd) (gs:=gs) (vs:=vs) (i:=i') (by rw [<- HRE.out]; exact h))
 clear HRE
 by_cases hr0:rf = 0
 ·
  have HOA:=hid' (okM_all (HOK.out hr0).1)
  have hi:=(HOK.out hr0).2
  have HRF:=hid' hr0
  clear HOK
  obtain ⟨i,rfl⟩:∃ i:Nat,i' = (i:Int):=⟨i'.toNat,by omega⟩
  have HL:=hid' (show m = vs.length/\n = gs.length/\(n = m + 1/\n<=4)/\i < n by
   have e1:=HS.out.1.len
   have e2:=HS.out.2.len
   have e3:=fits_len' HOA.out.2.2.2
   exact ⟨e2,e1,by omega,by omega⟩)
  have HG:=hid' (And.intro (fun j (hj:j < n) => at_ok HOA.out.1 (i:=j) (by have:=HL.out; omega)) (fun j (hj:j < m) => at_ok HOA.out.2.1 (i:=j) (by have:=HL.out; omega)))
  have him:(i:Int) < (n:Int):=by have:=HL.out; omega
  obtain ⟨bg,og,rfl,hbg,hcg⟩:=(HS.out.1.kept HK.out.1).at (j:=i) (by have:=HL.out; omega)
  have hci:=hcg i (by have:=HL.out; omega)
  have q2:=HK.out.2.1.c2
  have d0:=hci.1
  have d1:=hci.2
  have hr1:(rf == 0) = true:=by simpa using hr0
  clear hi hcg hbg hci
  go_wp2_with fail
  refine (rt_value _ _ (HG.out.1 i HL.out.2.2.2) _).mono ?_
  rintro e w2 ⟨hk2,u2,rfl,t2⟩
  obtain ⟨s8,ao8,ap8,k8,c8,j8,d8,rfl⟩:=t2.shape
  clear d0 d1 q2
  go_upto_region 5 with fail
  have kp8:=(Kept.refl w2).alloc (.cells #[.bool s8,.slice ao8 k8 c8,.bool false,.slice ap8 j8 d8] 29)
  have r8:=F.RRow.alloc w2 (.bool s8) (.slice ao8 k8 c8) (.bool false) (.slice ap8 j8 d8)
  generalize w2.alloc (.cells #[.bool s8,.slice ao8 k8 c8,.bool false,.slice ap8 j8 d8] 29) = W2 at kp8 r8 ⊢
  obtain ⟨p8,hp8⟩:∃ p,p = w2.heap.size:=⟨_,rfl⟩
  rw [<- hp8] at r8 ⊢
  have HPQ:=hid' hp8
  clear hp8
  have kk:=hk2.trans kp8
  have HT8:=hid' (And.intro (RT.mono (t2.kept kp8) HK.out.1.size) r8)
  have HNE:=hid' (show q5 ≠ q4/\p8 ≠ q4/\p ≠ q4/\p8 ≠ q5/\p ≠ q5 by
   have e1:=HK.out.2.2.1.lt
   have e2:=HK.out.2.2.2.lt
   have e3:=hk2.size
   have e4:=HPQ.out
   have e5:=HN45.out
   omega)
  have HK:=hid' (And.intro (HK.out.1.trans kk) (And.intro (HK.out.2.1.kept kk) (And.intro (HK.out.2.2.1.kept kk) (HK.out.2.2.2.kept kk))))
  clear hk2 kp8 t2 r8 kk
  have sS:=hid' (fun (V:World) (r:F.RRow V p8 (.bool s8) (.slice ao8 k8 c8) (.bool false) (.slice ap8 j8 d8)) (mm:Row4 24 V p (.string s) (.int .u8 kd) (.slice (some ⟨bg,og,none⟩) n c) (.slice a2 m c')) => (show V.cell? ⟨p8,0,none⟩ = some (.bool s8)/\V.cell? ⟨p8,1,none⟩ = some (.slice ao8 k8 c8)/\V.cell? ⟨p8,2,none⟩ = some (.bool false)/\V.cell? ⟨p8,3,none⟩ = some (.slice ap8 j8 d8)/\V.cell? ⟨p,0,none⟩ = some (.string s)/\V.cell? ⟨p,1,none⟩ = some (.int .u8 kd)/\V.cell? ⟨p,2,none⟩ = some (.slice (some ⟨bg,og,none⟩) n c)/\V.cell? ⟨p,3,none⟩ = some (.slice a2 m c') from ⟨r.c0,r.c1,r.c2,r.c3,mm.c0,mm.c1,mm.c2,mm.c3⟩))
  have KT:Kept W2 W2.drew:=(Kept.refl _).drew
  refine wp_region_held_drew (S:=fun w' => w'.cell? ⟨p8,0,none⟩ = some (.bool s8)/\w'.cell? ⟨p8,1,none⟩ = some (.slice ao8 k8 c8)/\w'.cell? ⟨p8,2,none⟩ = some (.bool false)/\w'.cell? ⟨p8,3,none⟩ = some (.slice ap8 j8 d8)/\w'.cell? ⟨p,0,none⟩ = some (.string s)/\w'.cell? ⟨p,1,none⟩ = some (.int .u8 kd)/\w'.cell? ⟨p,2,none⟩ = some (.slice (some ⟨bg,og,none⟩) n c)/\w'.cell? ⟨p,3,none⟩ = some (.slice a2 m c')) (by kernel_rfl) (sS.out _ (HT8.out.2.kept KT) (HK.out.2.1.kept KT)) (fun hHeld => ?_)
  generalize W2.drew = Wd at KT hHeld ⊢
  refine wk 0 hHeld ?_
  refine wk 1 hHeld ?_
  refine wk 2 hHeld ?_
  refine rdy 3 fun K hK => ?_
  go_simp
  refine (ownM_any s kd (some ⟨bg,og,none⟩) a2 n c m c' gs vs i _ (HS.out.1.kept (HK.out.1.trans KT)) (HS.out.2.kept (HK.out.1.trans KT)) hn HL.out.2.2.1 HL.out.2.2.2 HG.out.1 HG.out.2).mono ?_
  rintro e w3 ⟨hk3,u3,rfl,t3⟩
  obtain ⟨s9,ao9,ap9,k9,c9,j9,d9,rfl⟩:=t3.shape
  have t3:=RT.mono t3 (show w.heap.size<=_ from (HK.out.1.trans KT).size)
  have KT:=KT.trans hk3
  refine hK.out _ _ (sS.out _ (HT8.out.2.kept KT) (HK.out.2.1.kept KT)) (fun hHeld => ?_)
  clear hK K hk3
  have r4:=HK.out.2.2.1.kept KT
  have r5:=HK.out.2.2.2.kept KT
  have r8:=HT8.out.2.kept KT
  have rm:=HK.out.2.1.kept KT
  have t8:=HT8.out.1.kept KT
  have KK:=HK.out.1.trans KT
  have f0:=r4.c0
  have f1:=r4.c1
  have f2:=r4.c2
  have f3:=r4.c3
  have fz:=r4.fz
  refine rdy 4 fun K hK => ?_
  go_simp
  have r4':=F.RRow.set r4 (.bool s8) (.slice ao8 k8 c8) (.bool false) (.slice ap8 j8 d8)
  have r5:=F.RRow.far r5 HNE.out.1 (.bool s8) (.slice ao8 k8 c8) (.bool false) (.slice ap8 j8 d8)
  have r8:=F.RRow.far r8 HNE.out.2.1 (.bool s8) (.slice ao8 k8 c8) (.bool false) (.slice ap8 j8 d8)
  have rm:Row4 24 ((((w3.setCell ⟨q4,0,none⟩ (.bool s8)).setCell ⟨q4,1,none⟩ (.slice ao8 k8 c8)).setCell ⟨q4,2,none⟩ (.bool false)).setCell ⟨q4,3,none⟩ (.slice ap8 j8 d8)) p (.string s) (.int .u8 kd) (.slice (some ⟨bg,og,none⟩) n c) (.slice a2 m c'):=World.rowIs.setOther (World.rowIs.setOther (World.rowIs.setOther (World.rowIs.setOther rm HNE.out.2.2.1 _) HNE.out.2.2.1 _) HNE.out.2.2.1 _) HNE.out.2.2.1 _
  have t8:=RT.set4 t8 r4 (.bool s8) (.slice ao8 k8 c8) (.bool false) (.slice ap8 j8 d8)
  have t3:=RT.set4 t3 r4 (.bool s8) (.slice ao8 k8 c8) (.bool false) (.slice ap8 j8 d8)
  have KK:=kept_set4 KK HQ4.out (.bool s8) (.slice ao8 k8 c8) (.bool false) (.slice ap8 j8 d8)
  refine hK.out _ _ (sS.out _ r8 rm) (fun hHeld => ?_)
  clear hK K f0 f1 f2 f3 fz r4
  generalize (((w3.setCell ⟨q4,0,none⟩ (.bool s8)).setCell ⟨q4,1,none⟩ (.slice ao8 k8 c8)).setCell ⟨q4,2,none⟩ (.bool false)).setCell ⟨q4,3,none⟩ (.slice ap8 j8 d8) = w4 at r4' r5 r8 rm t8 t3 KK hHeld ⊢
  have f0:=r5.c0
  have f1:=r5.c1
  have f2:=r5.c2
  have f3:=r5.c3
  have fz:=r5.fz
  refine rdy 5 fun K hK => ?_
  go_simp
  have r5':=F.RRow.set r5 (.bool s9) (.slice ao9 k9 c9) (.bool false) (.slice ap9 j9 d9)
  have r4':=F.RRow.far r4' (fun e => HNE.out.1 e.symm) (.bool s9) (.slice ao9 k9 c9) (.bool false) (.slice ap9 j9 d9)
  have r8:=F.RRow.far r8 HNE.out.2.2.2.1 (.bool s9) (.slice ao9 k9 c9) (.bool false) (.slice ap9 j9 d9)
  have rm:Row4 24 ((((w4.setCell ⟨q5,0,none⟩ (.bool s9)).setCell ⟨q5,1,none⟩ (.slice ao9 k9 c9)).setCell ⟨q5,2,none⟩ (.bool false)).setCell ⟨q5,3,none⟩ (.slice ap9 j9 d9)) p (.string s) (.int .u8 kd) (.slice (some ⟨bg,og,none⟩) n c) (.slice a2 m c'):=World.rowIs.setOther (World.rowIs.setOther (World.rowIs.setOther (World.rowIs.setOther rm HNE.out.2.2.2.2 _) HNE.out.2.2.2.2 _) HNE.out.2.2.2.2 _) HNE.out.2.2.2.2 _
  have t8:=RT.set4 t8 r5 (.bool s9) (.slice ao9 k9 c9) (.bool false) (.slice ap9 j9 d9)
  have t3:=RT.set4 t3 r5 (.bool s9) (.slice ao9 k9 c9) (.bool false) (.slice ap9 j9 d9)
  have KK:=kept_set4 KK HQ5.out (.bool s9) (.slice ao9 k9 c9) (.bool false) (.slice ap9 j9 d9)
  refine hK.out _ _ (sS.out _ r8 rm) (fun hHeld => ?_)
  clear hK K f0 f1 f2 f3 fz r5
  generalize (((w4.setCell ⟨q5,0,none⟩ (.bool s9)).setCell ⟨q5,1,none⟩ (.slice ao9 k9 c9)).setCell ⟨q5,2,none⟩ (.bool false)).setCell ⟨q5,3,none⟩ (.slice ap9 j9 d9) = w5 at r4' r5' r8 rm t8 t3 KK hHeld ⊢
  refine wk 6 hHeld ?_
  refine dn ?_
  have f0:=r4'.c0
  have g0:=r5'.c0
  have f1:=r4'.c1
  have g1:=r5'.c1
  have f2:=r4'.c2
  have g2:=r5'.c2
  have f3:=r4'.c3
  have g3:=r5'.c3
  go_wp2_with fail
  exact bodyPost_ret (v:=.tuple #[.agg #[.bool s8,.slice ao8 k8 c8,.bool false,.slice ap8 j8 d8],.agg #[.bool s9,.slice ao9 k9 c9,.bool false,.slice ap9 j9 d9],.int .i64 0]) (by simp [results,Tryz.results9,go_sem,f0,f1,f2,f3,g0,g1,g2,g3]) rfl ⟨KK,.inr ⟨HRF.out,_,_,rfl,t8,t3⟩⟩
 ·
  have r4:=HK.out.2.2.1
  have r5:=HK.out.2.2.2
  have f0:=r4.c0
  have f1:=r4.c1
  have f2:=r4.c2
  have f3:=r4.c3
  have fz:=r4.fz
  have g0:=r5.c0
  have g1:=r5.c1
  have g2:=r5.c2
  have g3:=r5.c3
  have gz:=r5.fz
  clear r4 r5
  go_wp2_with fail
  exact bodyPost_ret (v:=.tuple #[.agg #[.bool false,.slice none 0 0,.bool false,.slice none 0 0],.agg #[.bool false,.slice none 0 0,.bool false,.slice none 0 0],.int .i64 rf]) (by simp [results,Tryz.results9,go_sem,f0,f1,f2,f3,g0,g1,g2,g3]) rfl ⟨kept_set4 (kept_set4 HK.out.1 HQ4.out _ _ _ _) HQ5.out _ _ _ _,.inl ⟨hr0,rfl⟩⟩
open Q (hid' Row3 Row2 okN okN_bd Scl)
set_option maxRecDepth 100000 in
set_option maxHeartbeats 4000000 in
theorem countM_any (s:ByteArray) (k:Int) (a1 a2:Option Addr) (n c m c':Nat) (gs vs:List (Int × Int)) (w:World) (hs:s.size<=9223372036854775807) (h1:NSl w (.slice a1 n c) gs) (h2:NSl w (.slice a2 m c') vs) (hn:n<=4611686018427387903) (hm:m<=4611686018427387903) :
  Calls Tryz.prog 18 #[.agg #[.string s,.int .u8 k,.slice a1 n c,.slice a2 m c']] w fun e w' => Kept w w'/\e = .returned (.int .i64 (if okM s.data.toList k gs vs = true then (n:Int) else 0)):=by
 have HS:=hid' (And.intro h1 h2)
 clear h1 h2
 obtain ⟨ok,hok⟩:∃ ok,ok = okM s.data.toList k gs vs:=⟨_,rfl⟩
 rw [<- hok]
 have HOE:=hid' hok
 clear hok
 go_enter Tryz.func18,Tryz.ntmps18
 go_upto_region 1 with fail
 have hM:=Row4.alloc 24 w (.string s) (.int .u8 k) (.slice a1 n c) (.slice a2 m c')
 have hK:=(Kept.refl w).alloc (.cells #[.string s,.int .u8 k,.slice a1 n c,.slice a2 m c'] 24)
 generalize w.alloc (.cells #[.string s,.int .u8 k,.slice a1 n c,.slice a2 m c'] 24) = W at hM hK ⊢
 obtain ⟨p,hp⟩:∃ q,q = w.heap.size:=⟨_,rfl⟩
 rw [<- hp] at hM ⊢
 clear hp
 have q0:=hM.c0
 have q1:=hM.c1
 have q2:=hM.c2
 have q3:=hM.c3
 have HK:=hid' (And.intro hK hM)
 clear hK hM
 go_wp2_with fail
 refine (validM_any s k a1 a2 n c m c' gs vs _ hs (HS.out.1.kept HK.out.1) (HS.out.2.kept HK.out.1) hn hm).mono ?_
 rintro e w1 ⟨hk1,rfl⟩
 have HK:=hid' (And.intro (HK.out.1.trans hk1) (HK.out.2.kept hk1))
 clear hk1 q0 q1 q2 q3
 rw [<- HOE.out]
 clear HOE
 have q2:=HK.out.2.c2
 cases ok
 ·
  go_wp2_with fail
  go_ret
  exact ⟨HK.out.1,rfl⟩
 ·
  go_wp2_with fail
  go_ret
  exact ⟨HK.out.1,rfl⟩
open Q (hid' Row3 Row2 okN okN_bd Scl)
theorem bl_at (s:ByteArray) (k:Nat) (h:k < s.size):s.data.toList[k]? = some s[k]:=by
 rw [List.getElem?_eq_getElem (by rw [Array.length_toList]; exact h)]
 rfl
theorem any_take (s:ByteArray) (k:Nat) (h:k < s.size):(s.data.toList.take (k + 1)).any (fun c => !nb c) = ((s.data.toList.take k).any (fun c => !nb c) || !nb s[k]):=by
 rw [List.take_add_one,bl_at s k h,List.any_append]
 simp
set_option maxRecDepth 100000 in
set_option maxHeartbeats 4000000 in
theorem rname_any (s:ByteArray) (w:World) (hs:s.size<=9223372036854775807):Calls Tryz.prog 39 #[.string s] w fun e w' => w' = w/\e = .returned (.bool (okName s.data.toList)):=by
 have hl:s.data.toList.length = s.size:=by rw [Array.length_toList]; rfl
 have HO:=hid' (show okName s.data.toList = (decide (1<=s.size/\s.size<=16) && !(s.data.toList.any fun c => !nb c)) by unfold okName; rw [hl])
 obtain ⟨ok,hok⟩:∃ ok,ok = okName s.data.toList:=⟨_,rfl⟩
 rw [<- hok] at HO ⊢
 clear hok
 have HLn:=hid' hl
 clear hl
 go_enter Tryz.func39,Tryz.ntmps39
 go_wp2_with fail
 go_loopw [3] (fun vi wr => ∃ j:Nat,j<=s.size/\vi = .int .i64 (j:Int)/\Hid ((s.data.toList.take j).any (fun c => !nb c) = false)/\wr = w) (fun vi _ => s.size - (intOf vi).toNat)
 case atStart => exact ⟨0,Nat.zero_le _,rfl,hid' (by simp),rfl⟩
 case round =>
  obtain ⟨j,hj,rfl,H,rfl⟩:=hrel
  by_cases hlt:j < s.size
  ·
   have hij:(j:Int) < (s.size:Int):=by omega
   have HT:=hid' (any_take s j hlt)
   by_cases hb:nbI (s[j].toNat:Int) = true
   ·
    have HN:=hid' (show (s.data.toList.take (j + 1)).any (fun c => !nb c) = false by rw [HT.out,H.out]; unfold nb; rw [hb]; rfl)
    have hz:=of_decide_eq_true hb
    clear hb
    by_cases e1:97<=(s[j].toNat:Int)
    ·
     by_cases e2:(s[j].toNat:Int)<=122
     ·
      have e1':¬ (s[j].toNat:Int) < 97:=by omega
      have e2':¬ (122:Int) < (s[j].toNat:Int):=by omega
      clear hz
      go_wp2_with fail
      go_roundw
      case rel => exact ⟨j + 1,by omega,by go_num,HN.out,trivial⟩
      case measure => show s.size - ((j:Int) + 1).toNat < s.size - (j:Int).toNat; omega
     ·
      omega
    ·
     by_cases e3:(s[j].toNat:Int) = 95
     ·
      have e1':(s[j].toNat:Int) < 97:=by omega
      have e4:¬ (s[j].toNat:Int) < 48:=by omega
      have e5:(57:Int) < (s[j].toNat:Int):=by omega
      have e6:((s[j].toNat:Int) == 95) = true:=by simpa using e3
      clear hz
      go_wp2_with fail
      go_roundw
      case rel => exact ⟨j + 1,by omega,by go_num,HN.out,trivial⟩
      case measure => show s.size - ((j:Int) + 1).toNat < s.size - (j:Int).toNat; omega
     ·
      have e1':(s[j].toNat:Int) < 97:=by omega
      have e4:¬ (s[j].toNat:Int) < 48:=by omega
      have e5:¬ (57:Int) < (s[j].toNat:Int):=by omega
      clear hz
      go_wp2_with fail
      go_roundw
      case rel => exact ⟨j + 1,by omega,by go_num,HN.out,trivial⟩
      case measure => show s.size - ((j:Int) + 1).toNat < s.size - (j:Int).toNat; omega
   ·
    have HE:=hid' (show ok = false by
     rw [HO.out,show (s.data.toList.any fun c => !nb c) = true from ?_]
     ·
      simp
     ·
      rw [List.any_eq_true]
      exact ⟨s[j],List.mem_of_getElem? (bl_at s j hlt),by unfold nb; simpa using hb⟩)
    have hz:=of_decide_eq_false (Bool.eq_false_iff.2 hb)
    have e3:¬ (s[j].toNat:Int) = 95:=by omega
    have e6:((s[j].toNat:Int) == 95) = false:=by simpa using e3
    clear hb
    by_cases e1:(s[j].toNat:Int) < 97
    ·
     by_cases e4:(s[j].toNat:Int) < 48
     ·
      clear hz
      go_wp2_with fail
      go_ret
      exact ⟨rfl,by rw [HE.out]; rfl⟩
     ·
      have e5:(57:Int) < (s[j].toNat:Int):=by omega
      clear hz
      go_wp2_with fail
      go_ret
      exact ⟨rfl,by rw [HE.out]; rfl⟩
    ·
     have e2:(122:Int) < (s[j].toNat:Int):=by omega
     have e4:¬ (s[j].toNat:Int) < 48:=by omega
     have e5:(57:Int) < (s[j].toNat:Int):=by omega
     clear hz
     go_wp2_with fail
     go_ret
     exact ⟨rfl,by rw [HE.out]; rfl⟩
  ·
   have hij:¬ (j:Int) < (s.size:Int):=by omega
   have HA:=hid' (show (s.data.toList.any fun c => !nb c) = false by
    rw [<- H.out,List.take_of_length_le (by rw [HLn.out]; omega)])
   by_cases l1:1<=s.size
   ·
    have l1':(1:Int)<=(s.size:Int):=by omega
    by_cases l2:s.size<=16
    ·
     have l2':(s.size:Int)<=16:=by omega
     have HE:=hid' (show ok = true by rw [HO.out,HA.out,decide_eq_true ⟨l1,l2⟩]; rfl)
     go_wp2_with fail
     go_ret
     exact ⟨rfl,by rw [HE.out]; rfl⟩
    ·
     have l2':¬ (s.size:Int)<=16:=by omega
     have HE:=hid' (show ok = false by rw [HO.out,decide_eq_false (fun h => l2 h.2)]; rfl)
     go_wp2_with fail
     go_ret
     exact ⟨rfl,by rw [HE.out]; rfl⟩
   ·
    have l1':¬ (1:Int)<=(s.size:Int):=by omega
    have HE:=hid' (show ok = false by rw [HO.out,decide_eq_false (fun h => l1 h.1)]; rfl)
    go_wp2_with fail
    go_ret
    exact ⟨rfl,by rw [HE.out]; rfl⟩
theorem ready1 {P:Program} {md:Region.Mode} {ops:Array Oper} {Q:Exit->Act->World->Prop} {S:World->Prop} {i:Nat} {o:Oper} {fuel:Nat} {listed:Array Bool} {a:Act} {w:World} (hr:Region.ready md ops listed = [i]) (ho:ops[i]? = some o) (hw:Region.wanted o (yielded ops a.tmps) = true)
  (h:∀ K':Act->World->Prop,Shut (∀ a w,S w->(S w->wpAnyH P md ops Q S fuel (listed.setIfInBounds i true) a w)->K' a w)->Oper.wp P o a w K' Q):wpAnyH P md ops Q S (fuel + 1) listed a w :=
 wpAnyH_ready hr (by simp) (AllReadyH.cons ho (fun K hK => by rw [if_pos hw]; exact h K hK) AllReadyH.nil)
open Q (hid' Row3 Row2 okN okN_bd Scl)
theorem ft_held {v v':Value} {A A':Int} {S:Nat} (w:World) (h:FT w v A S) (h':FT w v' A' S) (hS:0 < S) :
  Calls Tryz.prog 41 #[v,v'] w fun e w' => Kept w w'/\e = .returned (.int .i64 (isgn A A')):=by
 obtain ⟨N,D,⟨s,a1,k1,c1,t,a2,k2,c2,rfl,n1,n2,l1,l2⟩,p,_,e⟩:=h
 obtain ⟨N',D',⟨s',b1,k3,c3,t',b2,k4,c4,rfl,n3,n4,l3,l4⟩,p',_,e'⟩:=h'
 refine (F.FHeld_any s t s' t' a1 a2 b1 b2 k1 c1 k2 c2 k3 c3 k4 c4 N D N' D' w n1 n2 n3 n4 (by omega)).mono ?_
 rintro e0 w' ⟨hk,rfl⟩
 have q:(D.toNat:Int) = D:=Int.toNat_of_nonneg (by omega)
 have q':(D'.toNat:Int) = D':=Int.toNat_of_nonneg (by omega)
 have:=isgn_terms (N:=N) (N':=N') (A:=A) (A':=A') (D:=D.toNat) (D':=D'.toNat) (S:=S) (by omega) (by omega) hS (by rw [q]; exact e) (by rw [q']; exact e')
 rw [q,q'] at this
 exact ⟨hk,by rw [this]⟩
theorem allN_of {l:List (Int × Int)} (h:∀ i,i < l.length->okN (l.getD i (0,0)).1 (l.getD i (0,0)).2 = true):allN l = true:=by
 unfold allN
 have:l.any (fun q => !okN q.1 q.2) = false:=by
  rw [List.any_eq_false]
  intro q hq
  obtain ⟨i,hi,rfl⟩:=List.getElem_of_mem hq
  have:=h i hi
  rw [List.getD_eq_getElem?_getD,List.getElem?_eq_getElem hi] at this
  simpa using this
 rw [this]; rfl
theorem okM_at {s:List UInt8} {k:Int} {gs vs:List (Int × Int)} (h:okM s k gs vs = true):(∀ i,i < gs.length->okN (gs.getD i (0,0)).1 (gs.getD i (0,0)).2 = true)/\(∀ i,i < vs.length->okN (vs.getD i (0,0)).1 (vs.getD i (0,0)).2 = true):=by
 have h0:=okM_all h
 constructor
 ·
  intro i hi
  refine h0.1 _ ?_
  rw [List.getD_eq_getElem?_getD,List.getElem?_eq_getElem hi]
  exact List.getElem_mem hi
 ·
  intro i hi
  refine h0.2.1 _ ?_
  rw [List.getD_eq_getElem?_getD,List.getElem?_eq_getElem hi]
  exact List.getElem_mem hi
open Go.Sort (grow) in
set_option maxRecDepth 100000 in
set_option maxHeartbeats 8000000 in
theorem rvalidM_any (s:ByteArray) (k:Int) (a1 a2:Option Addr) (n c m c':Nat) (gs vs:List (Int × Int)) (w:World) (hs:s.size<=9223372036854775807) (h1:NSl w (.slice a1 n c) gs) (h2:NSl w (.slice a2 m c') vs) (hn:n<=4611686018427387903) (hm:m<=4611686018427387903) :
  Calls Tryz.prog 15 #[.agg #[.string s,.int .u8 k,.slice a1 n c,.slice a2 m c']] w fun e w' => Kept w w'/\e = .returned (.bool (okM s.data.toList k gs vs)):=by
 have HS:=hid' (And.intro h1 h2)
 have HL:=hid' (show m = vs.length/\n = gs.length from ⟨h2.len,h1.len⟩)
 clear h1 h2
 have HN:=hid' (rname_any s)
 have hsz:=hs
 go_enter Tryz.func15,Tryz.ntmps15
 go_upto_region 1 with fail
 have hK:=(Kept.refl w).alloc (.cells #[.string s,.int .u8 k,.slice a1 n c,.slice a2 m c'] 24)
 have hR:=Row4.alloc 24 w (.string s) (.int .u8 k) (.slice a1 n c) (.slice a2 m c')
 generalize w.alloc (.cells #[.string s,.int .u8 k,.slice a1 n c,.slice a2 m c'] 24) = W at hK hR ⊢
 obtain ⟨p,hp⟩:∃ p,p = w.heap.size:=⟨_,rfl⟩
 rw [<- hp] at hR ⊢
 have HB:=hid' (And.intro hK hR)
 have q0:=hR.c0
 clear hp hK hR
 go_wp2_with fail
 refine (HN.out _ hsz).mono ?_
 rintro e w1 ⟨rfl,rfl⟩
 obtain ⟨b1,hb1⟩:∃ b,b = okName s.data.toList:=⟨_,rfl⟩
 rw [<- hb1]
 have HB1:=hid' hb1
 clear hb1 q0 HN
 cases b1
 ·
  go_wp2_with fail
  go_ret
  exact ⟨HB.out.1,by unfold okM; rw [<- HB1.out]; rfl⟩
 go_wp2_with fail
 go_loopw [3] (fun vi wr => ∃ j:Nat,j<=n/\vi = .int .i64 (j:Int)/\Hid (Kept w1 wr/\∀ i,i < j->okN (gs.getD i (0,0)).1 (gs.getD i (0,0)).2 = true)) (fun vi _ => n - (intOf vi).toNat)
 case atStart => exact ⟨0,Nat.zero_le _,rfl,Kept.refl _,fun i hi => absurd hi (Nat.not_lt_zero _)⟩
 case round =>
  obtain ⟨j,hj,rfl,H⟩:=hrel
  have e2:=(HB.out.2.kept H.out.1).c2
  by_cases hlt:j < n
  ·
   have hltz:(j:Int) < (n:Int):=by omega
   obtain ⟨ao',cap',hv,hx⟩:=HS.out.1.kept (HB.out.1.trans H.out.1)
   simp only [Value.slice.injEq] at hv
   obtain ⟨rfl,hq',rfl⟩:=hv
   obtain ⟨b,off,rfl,hb,hc⟩:=hx (by omega)
   obtain ⟨d0,d1⟩:=hc j (by omega)
   obtain ⟨x,hX⟩:∃ x,x = gs.getD j (0,0):=⟨_,rfl⟩
   rw [<- hX] at d0 d1
   have HX:=hid' hX
   obtain ⟨x0,x1⟩:=x
   dsimp only at d0 d1
   clear hq' hx hc hX hb
   go_wp2_with fail
   refine (Q.RValid_any x0 x1 _).mono ?_
   rintro e w2 ⟨hk2,rfl⟩
   have HK2:=hid' (H.out.1.trans hk2)
   obtain ⟨o1,ho1⟩:∃ o,o = okN x0 x1:=⟨_,rfl⟩
   rw [<- ho1]
   have HO:=hid' (show o1 = okN (gs.getD j (0,0)).1 (gs.getD j (0,0)).2 by rw [ho1,<- HX.out])
   clear hk2 d0 d1 e2 ho1 HX
   cases o1
   ·
    go_wp2_with fail
    go_ret
    refine ⟨HB.out.1.trans HK2.out,congrArg (fun b => Ending.returned (Value.bool b)) ?_⟩
    symm
    rw [Bool.eq_false_iff]
    intro hok
    have:=(okM_at hok).1 j (by have:=HL.out; omega)
    rw [<- HO.out] at this
    cases this
   ·
    go_wp2_with fail
    go_roundw
    case rel =>
     refine ⟨j + 1,by omega,by go_num,HK2.out,fun i hi => ?_⟩
     by_cases e:i = j
     ·
      subst e; exact HO.out.symm
     ·
      exact H.out.2 i (by omega)
    case measure => show n - ((j:Int) + 1).toNat < n - (j:Int).toNat; omega
  ·
   obtain rfl:j = n:=by omega
   have hltz:¬ (j:Int) < (j:Int):=by omega
   have HG:=hid' (fun i (hi:i < gs.length) => H.out.2 i (by have:=HL.out; omega))
   have HB:=hid' (And.intro (HB.out.1.trans H.out.1) (HB.out.2.kept H.out.1))
   clear H hlt
   go_wp2_with fail
   clear e2
   generalize hW:wr = W at HB ⊢
   clear hW
   go_loopw [4] (fun vi wr => ∃ i:Nat,i<=m/\vi = .int .i64 (i:Int)/\Hid (Kept W wr/\(∀ l,l < i->okN (vs.getD l (0,0)).1 (vs.getD l (0,0)).2 = true)/\(k = 100->∀ l,l + 1 < i->U (vs.getD l (0,0)).1 (vs.getD l (0,0)).2 < U (vs.getD (l + 1) (0,0)).1 (vs.getD (l + 1) (0,0)).2))) (fun vi _ => m - (intOf vi).toNat)
   case atStart => exact ⟨0,Nat.zero_le _,rfl,Kept.refl _,(fun i hi => absurd hi (Nat.not_lt_zero _)),fun _ i hi => absurd hi (Nat.not_lt_zero _)⟩
   case round =>
    obtain ⟨i,hi,rfl,H⟩:=hrel
    have e3:=(HB.out.2.kept H.out.1).c3
    by_cases hlt:i < m
    ·
     have hltm:(i:Int) < (m:Int):=by omega
     obtain ⟨ao',cap',hv,hx⟩:=HS.out.2.kept (HB.out.1.trans H.out.1)
     simp only [Value.slice.injEq] at hv
     obtain ⟨rfl,hq',rfl⟩:=hv
     obtain ⟨b,off,rfl,hb,hc⟩:=hx (by omega)
     obtain ⟨d2,d3⟩:=hc i (by omega)
     obtain ⟨y,hY⟩:∃ y,y = vs.getD i (0,0):=⟨_,rfl⟩
     rw [<- hY] at d2 d3
     have HY:=hid' hY
     obtain ⟨y0,y1⟩:=y
     dsimp only at d2 d3
     have HC:=hid' (And.intro hb hc)
     clear hq' hx hc hY hb
     go_wp2_with fail
     refine (Q.RValid_any y0 y1 _).mono ?_
     rintro e W7 ⟨hk2,rfl⟩
     have HK7:=hid' (H.out.1.trans hk2)
     obtain ⟨o1,ho1⟩:∃ o,o = okN y0 y1:=⟨_,rfl⟩
     rw [<- ho1]
     have HO:=hid' ho1
     have HO1':=hid' (show o1 = okN (vs.getD i (0,0)).1 (vs.getD i (0,0)).2 by rw [ho1,<- HY.out])
     have HC:=hid' (show b < W7.heap.size/\∀ j,j < vs.length->W7.cell? ⟨b,off + j * 2,none⟩ = some (.int .i64 (vs.getD j (0,0)).1)/\W7.cell? ⟨b,off + j * 2 + 1,none⟩ = some (.int .i64 (vs.getD j (0,0)).2) from
      ⟨Nat.lt_of_lt_of_le HC.out.1 hk2.size,fun j hj => ⟨(Below.cell hk2 (p:=⟨b,off + j * 2,none⟩) HC.out.1).trans (HC.out.2 j hj).1,(Below.cell hk2 (p:=⟨b,off + j * 2 + 1,none⟩) HC.out.1).trans (HC.out.2 j hj).2⟩⟩)
     clear hk2 d2 d3 e3 ho1
     cases o1
     ·
      go_wp2_with fail
      go_ret
      refine ⟨HB.out.1.trans HK7.out,congrArg (fun b => Ending.returned (Value.bool b)) ?_⟩
      symm
      rw [Bool.eq_false_iff]
      intro hok
      have:=(okM_at hok).2 i (by have:=HL.out; omega)
      rw [<- HO1'.out] at this
      cases this
     ·
      by_cases hkd:k = 100
      ·
       by_cases hi0:i = 0
       ·
        subst hi0
        subst hkd
        have hz:¬ (0:Int) < ((0:Nat):Int):=by omega
        have KR:Kept W7 W7.drew:=(Kept.refl _).drew
        have e1:=(HB.out.2.kept HK7.out).c1
        have hml:=(HB.out.2.kept HK7.out).lt
        have sS:=hid' (fun (V:World) (K:Kept W7 V) => (show V.cell? ⟨p,1,none⟩ = some (.int .u8 100) from (Below.cell K (p:=⟨p,1,none⟩) hml).trans e1))
        clear e1 hml
        go_upto_region 13 with fail
        refine wp_region_held_drew (S:=fun w' => w'.cell? ⟨p,1,none⟩ = some (.int .u8 100)) (by kernel_rfl) (sS.out _ KR) (fun hHeld => ?_)
        generalize W7.drew = Wd at KR hHeld ⊢
        refine tk 0 hHeld ?_
        refine tk 1 hHeld ?_
        refine tk 2 hHeld ?_
        refine tk 3 hHeld ?_
        refine tk 4 hHeld ?_
        refine tk 5 hHeld ?_
        refine tk 6 hHeld ?_
        refine tk 7 hHeld ?_
        refine sk 8 hHeld ?_
        refine sk 9 hHeld ?_
        refine sk 10 hHeld ?_
        refine sk 11 hHeld ?_
        refine sk 12 hHeld ?_
        refine sk 13 hHeld ?_
        refine sk 14 hHeld ?_
        refine sk 15 hHeld ?_
        refine sk 16 hHeld ?_
        refine sk 17 hHeld ?_
        refine sk 18 hHeld ?_
        refine sk 19 hHeld ?_
        refine sk 20 hHeld ?_
        refine sk 21 hHeld ?_
        refine sk 22 hHeld ?_
        refine tk 23 hHeld ?_
        refine dn ?_
        have HKR:=hid' KR
        clear sS hHeld KR
        go_wp2_with fail
        go_roundw
        case rel =>
         refine ⟨0 + 1,by omega,by go_num,HK7.out.trans HKR.out,(fun l hl => ?_),fun _ l hl => by omega⟩
         obtain rfl:l = 0:=by omega
         exact HO1'.out.symm
        case measure => show m - (((0:Nat):Int) + 1).toNat < m - ((0:Nat):Int).toNat; omega
       ·
        obtain ⟨j,rfl⟩:∃ j,i = j + 1:=⟨i - 1,by omega⟩
        subst hkd
        have ec:((j + 1:Nat):Int) = (j:Int) + 1:=by omega
        rw [ec] at hltm ⊢
        obtain ⟨hb,hc⟩:=HC.out
        obtain ⟨d0,d1⟩:=hc j (by have:=HL.out; omega)
        obtain ⟨d2,d3⟩:=hc (j + 1) (by have:=HL.out; omega)
        obtain ⟨x,hX⟩:∃ x,x = vs.getD j (0,0):=⟨_,rfl⟩
        rw [<- hX] at d0 d1
        rw [<- HY.out] at d2 d3
        have HX:=hid' (And.intro hX HY.out)
        have ok0:okN (vs.getD j (0,0)).1 (vs.getD j (0,0)).2 = true:=H.out.2.1 j (by omega)
        rw [<- hX] at ok0
        have ok1:okN y0 y1 = true:=HO.out.symm
        have HO1:=hid' HO1'.out.symm
        obtain ⟨x0,x1⟩:=x
        dsimp only at d0 d1 d2 d3 ok0
        clear hc hX HC HO HO1' hi0 ec HY
        have hj1:(0:Int) < (j:Int) + 1:=by omega
        have hj2:(j:Int) + 1 - 1 = (j:Int):=by omega
        have hj3:IntKind.i64.wrap (j:Int) = (j:Int):=by rw [IntKind.wrap_i64]; omega
        have hj5:(j:Int) < (m:Int):=by omega
        have hj6:((j:Int) + 1).toNat = j + 1:=by omega
        have hj7:(0:Int)<=(j:Int) + 1:=by omega
        have hsz:=(HB.out.2.kept H.out.1).lt
        have KT:Kept W W7.drew:=HK7.out.drew
        have KR:Kept W7 W7.drew:=(Kept.refl _).drew
        have e1:=(HB.out.2.kept HK7.out).c1
        have e3:=(HB.out.2.kept HK7.out).c3
        have hml:=(HB.out.2.kept HK7.out).lt
        have sS:=hid' (fun (V:World) (K:Kept W7 V) => (show V.cell? ⟨p,1,none⟩ = some (.int .u8 100)/\V.cell? ⟨p,3,none⟩ = some (.slice (some ⟨b,off,none⟩) m c')/\V.cell? ⟨b,off + j * 2,none⟩ = some (.int .i64 x0)/\V.cell? ⟨b,off + j * 2 + 1,none⟩ = some (.int .i64 x1)/\V.cell? ⟨b,off + (j + 1) * 2,none⟩ = some (.int .i64 y0)/\V.cell? ⟨b,off + (j + 1) * 2 + 1,none⟩ = some (.int .i64 y1) from ⟨(Below.cell K (p:=⟨p,1,none⟩) hml).trans e1,(Below.cell K (p:=⟨p,3,none⟩) hml).trans e3,(Below.cell K (p:=⟨b,off + j * 2,none⟩) hb).trans d0,(Below.cell K (p:=⟨b,off + j * 2 + 1,none⟩) hb).trans d1,(Below.cell K (p:=⟨b,off + (j + 1) * 2,none⟩) hb).trans d2,(Below.cell K (p:=⟨b,off + (j + 1) * 2 + 1,none⟩) hb).trans d3⟩))
        clear e1 e3 hml d0 d1 d2 d3 hb hsz
        go_upto_region 13 with fail
        refine wp_region_held_drew (S:=fun w' => w'.cell? ⟨p,1,none⟩ = some (.int .u8 100)/\w'.cell? ⟨p,3,none⟩ = some (.slice (some ⟨b,off,none⟩) m c')/\w'.cell? ⟨b,off + j * 2,none⟩ = some (.int .i64 x0)/\w'.cell? ⟨b,off + j * 2 + 1,none⟩ = some (.int .i64 x1)/\w'.cell? ⟨b,off + (j + 1) * 2,none⟩ = some (.int .i64 y0)/\w'.cell? ⟨b,off + (j + 1) * 2 + 1,none⟩ = some (.int .i64 y1)) (by kernel_rfl) (sS.out _ KR) (fun hHeld => ?_)
        generalize W7.drew = Wd at KT KR hHeld ⊢
        refine tk 0 hHeld ?_
        refine tk 1 hHeld ?_
        refine tk 2 hHeld ?_
        refine tk 3 hHeld ?_
        refine tk 4 hHeld ?_
        refine tk 5 hHeld ?_
        refine tk 6 hHeld ?_
        refine tk 7 hHeld ?_
        refine tk 8 hHeld ?_
        refine tk 9 hHeld ?_
        refine tk 10 hHeld ?_
        refine tk 11 hHeld ?_
        refine tk 12 hHeld ?_
        refine tk 13 hHeld ?_
        refine tk 15 hHeld ?_
        refine tk 16 hHeld ?_
        refine tk 17 hHeld ?_
        refine tk 18 hHeld ?_
        refine tk 19 hHeld ?_
        refine rdy 14 fun K hK => ?_
        go_simp
        refine (ft_num _ x0 x1 ok0).mono ?_
        rintro e wa ⟨hka,ua,rfl,fa⟩
        have KT:=KT.trans hka
        have KR:=KR.trans hka
        refine hK.out _ _ (sS.out _ KR) (fun hHeld => ?_)
        clear hK K hka
        refine rdy 20 fun K hK => ?_
        go_simp
        refine (ft_num _ y0 y1 ok1).mono ?_
        rintro e wb ⟨hkb,ub,rfl,fb⟩
        have KT:=KT.trans hkb
        have KR:=KR.trans hkb
        have fa:=fa.kept hkb
        refine hK.out _ _ (sS.out _ KR) (fun hHeld => ?_)
        clear hK K hkb
        refine rdy 21 fun K hK => ?_
        go_simp
        refine (ft_held _ fa fb (by decide)).mono ?_
        rintro e wd ⟨hkd,rfl⟩
        have KT:=KT.trans hkd
        have KR:=KR.trans hkd
        obtain ⟨ig,hig⟩:∃ ig,ig = isgn (U x0 x1) (U y0 y1):=⟨_,rfl⟩
        rw [<- hig]
        have HIG:=hid' hig
        refine hK.out _ _ (sS.out _ KR) (fun hHeld => ?_)
        clear hK K hkd fa fb hig
        by_cases hg:0<=ig
        ·
         have hg':(0:Int)<=ig:=hg
         refine tk 22 hHeld ?_
         refine tk 23 hHeld ?_
         refine dn ?_
         have HT:=hid' KT
         clear sS hHeld KR KT
         go_wp2_with fail
         go_ret
         refine ⟨HB.out.1.trans HT.out,congrArg (fun b => Ending.returned (Value.bool b)) ?_⟩
         symm
         rw [Bool.eq_false_iff]
         intro hok
         have hr:=(okM_all hok).2.2.1
         unfold riseN at hr
         have:=of_decide_eq_true hr j (by have:=HL.out; omega)
         rw [<- HX.out.1,<- HX.out.2] at this
         have h2:=HIG.out
         have h3:=isgn_neg (a:=U x0 x1) (b:=U y0 y1)
         dsimp only at this
         rw [<- h2] at h3
         have:=h3.2 this
         omega
        ·
         have hg':¬ (0:Int)<=ig:=hg
         refine tk 22 hHeld ?_
         refine tk 23 hHeld ?_
         refine dn ?_
         have HT:=hid' KT
         clear sS hHeld KR KT
         have HIL:=hid' (show U x0 x1 < U y0 y1 by
          have h2:=HIG.out
          have h3:=isgn_neg (a:=U x0 x1) (b:=U y0 y1)
          rw [<- h2] at h3
          exact h3.1 (by omega))
         go_wp2_with fail
         go_roundw
         case rel =>
          refine ⟨j + 1 + 1,by omega,by push_cast; go_num,HT.out,fun i hi => ?_,fun hk i hi => ?_⟩
          ·
           by_cases e:i = j + 1
           ·
            subst e; exact HO1.out
           ·
            exact H.out.2.1 i (by omega)
          ·
           by_cases e:i = j
           ·
            subst e
            rw [<- HX.out.1,<- HX.out.2]
            exact HIL.out
           ·
            exact H.out.2.2 hk i (by omega)
         case measure => show m - ((j:Int) + 1 + 1).toNat < m - ((j:Int) + 1).toNat; omega
      ·
       have hkb:(k == 100) = false:=by simpa using hkd
       have KR:Kept W7 W7.drew:=(Kept.refl _).drew
       have e1:=(HB.out.2.kept HK7.out).c1
       have hml:=(HB.out.2.kept HK7.out).lt
       have sS:=hid' (fun (V:World) (K:Kept W7 V) => (show V.cell? ⟨p,1,none⟩ = some (.int .u8 k) from (Below.cell K (p:=⟨p,1,none⟩) hml).trans e1))
       clear e1 hml
       go_upto_region 13 with fail
       refine wp_region_held_drew (S:=fun w' => w'.cell? ⟨p,1,none⟩ = some (.int .u8 k)) (by kernel_rfl) (sS.out _ KR) (fun hHeld => ?_)
       generalize W7.drew = Wd at KR hHeld ⊢
       refine tk 0 hHeld ?_
       refine tk 1 hHeld ?_
       refine tk 2 hHeld ?_
       refine tk 3 hHeld ?_
       refine sk 4 hHeld ?_
       refine sk 5 hHeld ?_
       refine tk 6 hHeld ?_
       refine tk 7 hHeld ?_
       refine sk 8 hHeld ?_
       refine sk 9 hHeld ?_
       refine sk 10 hHeld ?_
       refine sk 11 hHeld ?_
       refine sk 12 hHeld ?_
       refine sk 13 hHeld ?_
       refine sk 14 hHeld ?_
       refine sk 15 hHeld ?_
       refine sk 16 hHeld ?_
       refine sk 17 hHeld ?_
       refine sk 18 hHeld ?_
       refine sk 19 hHeld ?_
       refine sk 20 hHeld ?_
       refine sk 21 hHeld ?_
       refine sk 22 hHeld ?_
       refine tk 23 hHeld ?_
       refine dn ?_
       have HKR:=hid' KR
       clear sS hHeld KR
       go_wp2_with fail
       go_roundw
       case rel =>
        refine ⟨i + 1,by omega,by go_num,HK7.out.trans HKR.out,(fun l hl => ?_),fun h => absurd h hkd⟩
        by_cases e:l = i
        ·
         subst e; exact HO1'.out.symm
        ·
         exact H.out.2.1 l (by omega)
       case measure => show m - ((i:Int) + 1).toNat < m - (i:Int).toNat; omega
    ·
     obtain rfl:i = m:=by omega
     have hltm:¬ (i:Int) < (i:Int):=by omega
     have HV:=hid' (And.intro (fun l (hl:l < vs.length) => H.out.2.1 l (by have:=HL.out; omega)) (fun (hk:k = 100) l (hl:l < vs.length - 1) => H.out.2.2 hk l (by have:=HL.out; omega)))
     have HB:=hid' (And.intro (HB.out.1.trans H.out.1) (HB.out.2.kept H.out.1))
     have HA:=hid' (show okM s.data.toList k gs vs = (fitsM k j i && riseN vs) by
      unfold okM
      rw [<- HB1.out,<- HL.out.1,<- HL.out.2,allN_of HG.out,allN_of HV.out.1]
      simp)
     have HR:=hid' (fun (hk:k = 100) => (show riseN vs = true from decide_eq_true (HV.out.2 hk)))
     clear H hlt HV
     have e1:=HB.out.2.c1
     have e2:=HB.out.2.c2
     by_cases hk1:k = 115
     ·
      have hkb:(k == 115) = true:=by simpa using hk1
      by_cases hn2:j = 2
      ·
       have hn2':(((j:Nat):Int) == 2) = true:=by simp [hn2]
       by_cases hm1:i = 1
       ·
        have hm1':(((i:Nat):Int) == 1) = true:=by simp [hm1]
        have HF:=hid' (show okM s.data.toList k gs vs = true by
         rw [HA.out]
         have:riseN vs = true:=decide_eq_true (fun l hl => by have:=HL.out; omega)
         rw [this]; unfold fitsM; rw [if_neg (by omega),if_pos hk1]; simp [hn2,hm1])
        clear hn2 hm1 hk1
        go_wp2_with fail
        go_ret
        exact ⟨HB.out.1,by rw [HF.out]; rfl⟩
       ·
        have hm1':(((i:Nat):Int) == 1) = false:=by simp; omega
        have HF:=hid' (show okM s.data.toList k gs vs = false by
         rw [HA.out]; unfold fitsM; rw [if_neg (by omega),if_pos hk1]; simp [hm1])
        clear hn2 hm1 hk1
        go_wp2_with fail
        go_ret
        exact ⟨HB.out.1,by rw [HF.out]; rfl⟩
      ·
       have hn2':(((j:Nat):Int) == 2) = false:=by simp; omega
       have HF:=hid' (show okM s.data.toList k gs vs = false by
        rw [HA.out]; unfold fitsM; rw [if_neg (by omega),if_pos hk1]; simp [hn2])
       clear hn2 hk1
       go_wp2_with fail
       go_ret
       exact ⟨HB.out.1,by rw [HF.out]; rfl⟩
     ·
      have hkb:(k == 115) = false:=by simpa using hk1
      by_cases hk2:k = 100
      ·
       have hkb2:(k == 100) = true:=by simpa using hk2
       have HRT:=hid' (HR.out hk2)
       by_cases g1:1<=j
       ·
        have g1':(1:Int)<=(j:Int):=by omega
        by_cases g2:j<=4
        ·
         have g2':(j:Int)<=4:=by omega
         by_cases g3:i + 1 = j
         ·
          have g3':((i:Int) + 1 == (j:Int)) = true:=by simp; omega
          have HF:=hid' (show okM s.data.toList k gs vs = true by
           rw [HA.out,HRT.out]; unfold fitsM; rw [if_pos hk2]; simp; omega)
          clear g1 g2 g3 hk1 hk2
          go_wp2_with fail
          go_ret
          exact ⟨HB.out.1,by rw [HF.out]; rfl⟩
         ·
          have g3':((i:Int) + 1 == (j:Int)) = false:=by simp; omega
          have HF:=hid' (show okM s.data.toList k gs vs = false by
           rw [HA.out,HRT.out]; unfold fitsM; rw [if_pos hk2]; simp; omega)
          clear g1 g2 g3 hk1 hk2
          go_wp2_with fail
          go_ret
          exact ⟨HB.out.1,by rw [HF.out]; rfl⟩
        ·
         have g2':¬ (j:Int)<=4:=by omega
         have HF:=hid' (show okM s.data.toList k gs vs = false by
          rw [HA.out,HRT.out]; unfold fitsM; rw [if_pos hk2]; simp; omega)
         clear g1 g2 hk1 hk2
         go_wp2_with fail
         go_ret
         exact ⟨HB.out.1,by rw [HF.out]; rfl⟩
       ·
        have g1':¬ (1:Int)<=(j:Int):=by omega
        have HF:=hid' (show okM s.data.toList k gs vs = false by
         rw [HA.out,HRT.out]; unfold fitsM; rw [if_pos hk2]; simp; omega)
        clear g1 hk1 hk2
        go_wp2_with fail
        go_ret
        exact ⟨HB.out.1,by rw [HF.out]; rfl⟩
      ·
       have hkb2:(k == 100) = false:=by simpa using hk2
       have HF:=hid' (show okM s.data.toList k gs vs = false by
        rw [HA.out]; unfold fitsM; rw [if_neg hk2,if_neg hk1]; rfl)
       clear hk1 hk2
       go_wp2_with fail
       go_ret
       exact ⟨HB.out.1,by rw [HF.out]; rfl⟩
open Q (hid' Row3 Row2 okN okN_bd Scl)
set_option maxRecDepth 100000 in
set_option maxHeartbeats 4000000 in
theorem rfaultM_any (s:ByteArray) (k:Int) (a1 a2:Option Addr) (n c m c':Nat) (gs vs:List (Int × Int)) (i:Int) (w:World) (hs:s.size<=9223372036854775807) (h1:NSl w (.slice a1 n c) gs) (h2:NSl w (.slice a2 m c') vs) (hn:n<=4611686018427387903) (hm:m<=4611686018427387903) :
  Calls Tryz.prog 20 #[.agg #[.string s,.int .u8 k,.slice a1 n c,.slice a2 m c'],.int .i64 i] w fun e w' => Kept w w'/\e = .returned (.int .i64 (refM s.data.toList k gs vs i)):=by
 have hv:=rvalidM_any s k a1 a2 n c m c' gs vs
 have HS:=hid' (And.intro h1 h2)
 have HO:=hid' (show refM s.data.toList k gs vs i = if okM s.data.toList k gs vs = true then if i < 0 ∨ (n:Int)<=i then 111 else 0 else 50 by unfold refM; rw [h1.len])
 generalize refM s.data.toList k gs vs i = r at HO ⊢
 obtain ⟨ok,hok⟩:∃ ok,ok = okM s.data.toList k gs vs:=⟨_,rfl⟩
 rw [<- hok] at HO hv
 clear h1 h2 hok
 go_enter Tryz.func20,Tryz.ntmps20
 go_upto_region 1 with fail
 have hK:=(Kept.refl w).alloc (.cells #[.string s,.int .u8 k,.slice a1 n c,.slice a2 m c'] 24)
 have hR:=Row4.alloc 24 w (.string s) (.int .u8 k) (.slice a1 n c) (.slice a2 m c')
 generalize w.alloc (.cells #[.string s,.int .u8 k,.slice a1 n c,.slice a2 m c'] 24) = W at hK hR ⊢
 obtain ⟨p1,hp1⟩:∃ p,p = w.heap.size:=⟨_,rfl⟩
 rw [<- hp1] at hR ⊢
 have HK:=hid' (And.intro hK hR)
 have q0:=hR.c0
 have q1:=hR.c1
 have q2:=hR.c2
 have q3:=hR.c3
 clear hp1 hK hR
 go_wp2_with fail
 refine (hv _ hs (HS.out.1.kept HK.out.1) (HS.out.2.kept HK.out.1) hn hm).mono ?_
 rintro e w1 ⟨hk1,rfl⟩
 have HK1:=hid' (And.intro (HK.out.1.trans hk1) (HK.out.2.kept hk1))
 clear hk1 q0 q1 q2 q3 HK hv
 have q2:=HK1.out.2.c2
 cases ok
 ·
  go_wp2_with fail
  go_ret
  exact ⟨HK1.out.1,by rw [HO.out]; rfl⟩
 ·
  by_cases hi0:i < 0
  ·
   have HR:=hid' (show r = 111 by rw [HO.out,if_pos rfl,if_pos (.inl hi0)])
   go_wp2_with fail
   go_ret
   exact ⟨HK1.out.1,by rw [HR.out]; rfl⟩
  ·
   have hw:IntKind.i64.wrap ((n:Int) - 1) = (n:Int) - 1:=by rw [IntKind.wrap_i64]; omega
   by_cases hi1:(n:Int)<=i
   ·
    have HR:=hid' (show r = 111 by rw [HO.out,if_pos rfl,if_pos (.inr hi1)])
    have hi2:(n:Int) - 1 < i:=by omega
    go_wp2_with fail
    go_ret
    exact ⟨HK1.out.1,by rw [HR.out]; rfl⟩
   ·
    have HR:=hid' (show r = 0 by rw [HO.out,if_pos rfl,if_neg (by omega)])
    have hi2:¬ (n:Int) - 1 < i:=by omega
    go_wp2_with fail
    go_ret
    exact ⟨HK1.out.1,by rw [HR.out]; rfl⟩
open Q (hid' Row3 Row2 okN okN_bd Scl RQ)
theorem FT.shape {w:World} {v:Value} {A:Int} {S:Nat} (h:FT w v A S):∃ (s:Bool) (ao:Option Addr) (n c:Nat) (t:Bool) (ap:Option Addr) (n' c':Nat),v = .agg #[.bool s,.slice ao n c,.bool t,.slice ap n' c']:=by
 obtain ⟨N,D,⟨s,ao,n,c,t,ap,n',c',rfl,_⟩,_⟩:=h
 exact ⟨_,_,_,_,_,_,_,_,rfl⟩
theorem FT.put4 {w:World} {v:Value} {A:Int} {S p:Nat} {b b':Bool} {ao ao':Option Addr} {n n' c c':Nat} (h:FT w v A S) (hF:F.FRow w p (.bool b) (.slice ao n c) (.bool b') (.slice ao' n' c')) (y0 y1 y2 y3:Value):FT (F.put4 w p y0 y1 y2 y3) v A S:=by
 obtain ⟨N,D,⟨s,a1,k,d,t,a2,k',d',rfl,n1,n2,l1,l2⟩,r⟩:=h
 exact ⟨N,D,⟨s,a1,k,d,t,a2,k',d',rfl,F.nset4 n1 hF,F.nset4 n2 hF,l1,l2⟩,r⟩
theorem frow_put4 {w:World} {p:Nat} {x0 x1 x2 x3:Value} (h:F.FRow w p x0 x1 x2 x3) (y0 y1 y2 y3:Value):F.FRow (F.put4 w p y0 y1 y2 y3) p y0 y1 y2 y3 :=
 ((World.rowIs.set (World.rowIs.set (World.rowIs.set (World.rowIs.set h 0 y0) 1 y1) 2 y2) 3 y3).congr fun i hi => by
  match i,hi with
  | 0,_ => rfl
  | 1,_ => rfl
  | 2,_ => rfl
  | 3,_ => rfl)
theorem frow_far {w:World} {p q:Nat} {x0 x1 x2 x3:Value} (h:F.FRow w p x0 x1 x2 x3) (hne:¬ p = q) (y0 y1 y2 y3:Value):F.FRow (F.put4 w q y0 y1 y2 y3) p x0 x1 x2 x3 :=
 World.rowIs.setOther (World.rowIs.setOther (World.rowIs.setOther (World.rowIs.setOther h hne y0) hne y1) hne y2) hne y3
set_option maxRecDepth 100000 in
set_option maxHeartbeats 8000000 in
theorem knotR_any (s:ByteArray) (k:Int) (a1 a2:Option Addr) (n c m c':Nat) (vs:List (Int × Int)) (j:Nat) (w:World) (h2:NSl w (.slice a2 m c') vs) (hj:j < m) (hok:okN (vs.getD j (0,0)).1 (vs.getD j (0,0)).2 = true) :
  Calls Tryz.prog 72 #[.agg #[.string s,.int .u8 k,.slice a1 n c,.slice a2 m c'],.int .i64 (j:Int)] w fun e w' => Kept w w'/\∃ u,e = .returned u/\FT w' u (U (vs.getD j (0,0)).1 (vs.getD j (0,0)).2 * 1000000000) (10 ^ 18):=by
 obtain ⟨b,off,rfl,hbb,hc⟩:=h2.at (j:=j) hj
 obtain ⟨e0,e1⟩:=hc j hj
 have HC:=hid' (And.intro hbb (And.intro e0 e1))
 clear hc e0 e1 hbb h2
 obtain ⟨x,hX⟩:∃ x,x = vs.getD j (0,0):=⟨_,rfl⟩
 rw [<- hX] at HC hok ⊢
 clear hX
 obtain ⟨x0,x1⟩:=x
 dsimp only at HC hok ⊢
 have HO:=hid' hok
 have hj':(j:Int) < (m:Int):=by omega
 clear hok
 go_enter Tryz.func72,Tryz.ntmps72
 go_upto_region 1 with fail
 have hM:=(Row4.alloc 24 w (.string s) (.int .u8 k) (.slice a1 n c) (.slice (some ⟨b,off,none⟩) m c')).kept ((Kept.refl (w.alloc (.cells #[.string s,.int .u8 k,.slice a1 n c,.slice (some ⟨b,off,none⟩) m c'] 24))).alloc (.cells #[.bool false,.slice none 0 0,.bool false,.slice none 0 0] 73))
 have hZ:=F.FRow.alloc (w.alloc (.cells #[.string s,.int .u8 k,.slice a1 n c,.slice (some ⟨b,off,none⟩) m c'] 24)) (.bool false) (.slice none 0 0) (.bool false) (.slice none 0 0)
 have hK:=(((Kept.refl w).alloc (.cells #[.string s,.int .u8 k,.slice a1 n c,.slice (some ⟨b,off,none⟩) m c'] 24)).alloc (.cells #[.bool false,.slice none 0 0,.bool false,.slice none 0 0] 73))
 simp only [World.size_alloc] at hZ
 generalize (w.alloc (.cells #[.string s,.int .u8 k,.slice a1 n c,.slice (some ⟨b,off,none⟩) m c'] 24)).alloc (.cells #[.bool false,.slice none 0 0,.bool false,.slice none 0 0] 73) = W at hM hZ hK ⊢
 obtain ⟨pz,hqpz⟩:∃ q,q = w.heap.size + 1:=⟨_,rfl⟩
 rw [<- hqpz] at hZ ⊢
 obtain ⟨p,hqp⟩:∃ q,q = w.heap.size:=⟨_,rfl⟩
 rw [<- hqp] at hM ⊢
 have HP:=hid' (show w.heap.size<=pz by omega)
 have HK:=hid' (And.intro hK hZ)
 have q3:=hM.c3
 have d0:=(Below.cell hK (p:=⟨b,off + j * 2,none⟩) HC.out.1).trans HC.out.2.1
 have d1:=(Below.cell hK (p:=⟨b,off + j * 2 + 1,none⟩) HC.out.1).trans HC.out.2.2
 clear hqp hqpz hM hZ hK
 go_wp2_with fail
 refine (ft_num _ x0 x1 HO.out).mono ?_
 rintro e w1 ⟨hk1,u1,rfl,f1⟩
 have HK:=hid' (And.intro (HK.out.1.trans hk1) (HK.out.2.kept hk1))
 have H1:=hid' f1
 clear hk1 f1 q3 d0 d1
 go_wp2_with fail
 refine (ft_billion _ H1.out (by decide) (by rw [Int.natAbs_mul]; exact Nat.le_trans (Nat.mul_le_mul (u_abs HO.out) (Nat.le_refl _)) (by decide)) (by decide)).mono ?_
 rintro e w2 ⟨hk2,u2,rfl,f2⟩
 obtain ⟨y0,y1,y2,y3,y4,y5,y6,y7,rfl⟩:=f2.shape
 have HK:=hid' (And.intro (HK.out.1.trans hk2) (HK.out.2.kept hk2))
 have H2:=hid' f2
 clear hk2 f2
 have hZ:=HK.out.2
 have g0:=hZ.c0
 have g1:=hZ.c1
 have g2:=hZ.c2
 have g3:=hZ.c3
 have z:=hZ.fz
 clear hZ
 go_wp2_with fail
 exact bodyPost_ret (v:=(.agg #[.bool y0,.slice y1 y2 y3,.bool y4,.slice y5 y6 y7])) (by simp [results,Tryz.results72,go_sem,g0,g1,g2,g3]) rfl ⟨kept_set4 HK.out.1 HP.out _ _ _ _,_,rfl,FT.put4 H2.out HK.out.2 _ _ _ _⟩
def FX (w:World) (v:Value) (N:Int) (D:Nat):Prop:=F.FIs w v N (D:Int) 160 160/\0 < D
theorem FX.kept {w w':World} {v:Value} {N:Int} {D:Nat} (h:FX w v N D) (k:Kept w w'):FX w' v N D:=⟨h.1.kept k,h.2⟩
theorem FX.shape {w:World} {v:Value} {N:Int} {D:Nat} (h:FX w v N D):∃ (s:Bool) (ao:Option Addr) (n c:Nat) (t:Bool) (ap:Option Addr) (n' c':Nat),v = .agg #[.bool s,.slice ao n c,.bool t,.slice ap n' c']:=by
 obtain ⟨⟨s,ao,n,c,t,ap,n',c',rfl,_⟩,_⟩:=h
 exact ⟨_,_,_,_,_,_,_,_,rfl⟩
theorem held_knot {v v':Value} {N:Int} {D:Nat} {x:Int × Int} (w:World) (h:FX w v N D) (h':FT w v' (U x.1 x.2 * 1000000000) (10 ^ 18)) :
  Calls Tryz.prog 41 #[v,v'] w fun e w' => Kept w w'/\e = .returned (.int .i64 (agn N D x)):=by
 obtain ⟨⟨s,a1,k1,c1,t,a2,k2,c2,rfl,n1,n2,l1,l2⟩,hD⟩:=h
 obtain ⟨N',D',⟨s',b1,k3,c3,t',b2,k4,c4,rfl,n3,n4,l3,l4⟩,p',_,e'⟩:=h'
 refine (F.FHeld_any s t s' t' a1 a2 b1 b2 k1 c1 k2 c2 k3 c3 k4 c4 N D N' D' w n1 n2 n3 n4 (by omega)).mono ?_
 rintro e0 w' ⟨hk,rfl⟩
 refine ⟨hk,?_⟩
 have q':(D'.toNat:Int) = D':=Int.toNat_of_nonneg (by omega)
 have h1:=isgn_one (N:=N) (N':=N') (A':=U x.1 x.2 * 1000000000) (D:=D) (D':=D'.toNat) (S:=10 ^ 18) (by omega) (by decide) (by rw [q']; exact e')
 rw [q'] at h1
 rw [h1]
 have e:isgn (N * ((10 ^ 18:Nat):Int)) (U x.1 x.2 * 1000000000 * (D:Int)) = agn N D x:=by
  unfold agn
  rw [Int.mul_right_comm (U x.1 x.2) 1000000000,Int.mul_right_comm (U x.1 x.2) (10 ^ 27)]
  generalize U x.1 x.2 * (D:Int) = y
  have e18:((10 ^ 18:Nat):Int) = 1000000000000000000:=by decide
  have e36:(10 ^ 36:Int) = 1000000000000000000000000000000000000:=by decide
  have e27:(10 ^ 27:Int) = 1000000000000000000000000000:=by decide
  rw [e18,e36,e27]
  exact F.isgn_eq (by omega) (by omega)
 rw [e]
set_option maxRecDepth 100000 in
set_option maxHeartbeats 8000000 in
theorem liesR_any (s:ByteArray) (k:Int) (a1 a2:Option Addr) (n c m c':Nat) (gs vs:List (Int × Int)) (i:Nat) (N:Int) (D:Nat) (u0:Bool) (u1:Option Addr) (u2 u3:Nat) (u4:Bool) (u5:Option Addr) (u6 u7:Nat) (w:World) (h1:NSl w (.slice a1 n c) gs) (h2:NSl w (.slice a2 m c') vs) (hn:n<=4611686018427387903) (hm:m<=4611686018427387903) (hnm:n = m + 1) (hi:i < n) (hv:∀ j,j < m->okN (vs.getD j (0,0)).1 (vs.getD j (0,0)).2 = true) (hu:FX w (.agg #[.bool u0,.slice u1 u2 u3,.bool u4,.slice u5 u6 u7]) N D) :
  Calls Tryz.prog 37 #[.agg #[.string s,.int .u8 k,.slice a1 n c,.slice a2 m c'],.int .i64 (i:Int),(.agg #[.bool u0,.slice u1 u2 u3,.bool u4,.slice u5 u6 u7])] w fun e w' => Kept w w'/\e = .returned (.int .i64 (sideS N D vs i)):=by
 have HS:=hid' (And.intro h1 h2)
 have HL:=hid' (show m = vs.length/\n = m + 1/\i < n from ⟨h2.len,hnm,hi⟩)
 have HV:=hid' hv
 have HU:=hid' hu
 have hi4:(i:Int) < 4611686018427387904:=by omega
 clear h1 h2 hv hu hnm
 go_enter Tryz.func37,Tryz.ntmps37
 go_upto_region 1 with fail
 have hM:=(Row4.alloc 24 w (.string s) (.int .u8 k) (.slice a1 n c) (.slice a2 m c')).kept ((Kept.refl (w.alloc (.cells #[.string s,.int .u8 k,.slice a1 n c,.slice a2 m c'] 24))).alloc (.cells #[.bool u0,.slice u1 u2 u3,.bool u4,.slice u5 u6 u7] 73))
 have hU:=F.FRow.alloc (w.alloc (.cells #[.string s,.int .u8 k,.slice a1 n c,.slice a2 m c'] 24)) (.bool u0) (.slice u1 u2 u3) (.bool u4) (.slice u5 u6 u7)
 have hK:=(((Kept.refl w).alloc (.cells #[.string s,.int .u8 k,.slice a1 n c,.slice a2 m c'] 24)).alloc (.cells #[.bool u0,.slice u1 u2 u3,.bool u4,.slice u5 u6 u7] 73))
 simp only [World.size_alloc] at hU
 generalize (w.alloc (.cells #[.string s,.int .u8 k,.slice a1 n c,.slice a2 m c'] 24)).alloc (.cells #[.bool u0,.slice u1 u2 u3,.bool u4,.slice u5 u6 u7] 73) = W at hM hU hK ⊢
 obtain ⟨q,hqq⟩:∃ q,q = w.heap.size + 1:=⟨_,rfl⟩
 rw [<- hqq] at hU ⊢
 obtain ⟨p,hqp⟩:∃ q,q = w.heap.size:=⟨_,rfl⟩
 rw [<- hqp] at hM ⊢
 have HK:=hid' (And.intro hK (And.intro hM (And.intro hU (HU.out.kept hK))))
 clear hqp hqq hM hU hK HU
 by_cases hi0:i = 0
 ·
  subst hi0
  have hz0:¬ (0:Int) < ((0:Nat):Int):=by omega
  go_upto_region 1 with fail
  have KR:Kept W W.drew:=(Kept.refl _).drew
  have sS:=hid' (fun (V:World) (K:Kept W V) => (show V.cell? ⟨p,0,none⟩ = some (.string s)/\V.cell? ⟨p,1,none⟩ = some (.int .u8 k)/\V.cell? ⟨p,2,none⟩ = some (.slice a1 n c)/\V.cell? ⟨p,3,none⟩ = some (.slice a2 m c')/\V.cell? ⟨q,0,none⟩ = some (.bool u0)/\V.cell? ⟨q,1,none⟩ = some (.slice u1 u2 u3)/\V.cell? ⟨q,2,none⟩ = some (.bool u4)/\V.cell? ⟨q,3,none⟩ = some (.slice u5 u6 u7) from by
   have r1:=HK.out.2.1.kept K
   have r2:=HK.out.2.2.1.kept K
   exact ⟨r1.c0,r1.c1,r1.c2,r1.c3,r2.c0,r2.c1,r2.c2,r2.c3⟩))
  refine wp_region_held_drew (S:=fun w' => w'.cell? ⟨p,0,none⟩ = some (.string s)/\w'.cell? ⟨p,1,none⟩ = some (.int .u8 k)/\w'.cell? ⟨p,2,none⟩ = some (.slice a1 n c)/\w'.cell? ⟨p,3,none⟩ = some (.slice a2 m c')/\w'.cell? ⟨q,0,none⟩ = some (.bool u0)/\w'.cell? ⟨q,1,none⟩ = some (.slice u1 u2 u3)/\w'.cell? ⟨q,2,none⟩ = some (.bool u4)/\w'.cell? ⟨q,3,none⟩ = some (.slice u5 u6 u7)) (by kernel_rfl) (sS.out _ KR) (fun hHeld => ?_)
  generalize W.drew = Wd at KR hHeld ⊢
  refine tk 0 hHeld ?_
  refine tk 1 hHeld ?_
  refine tk 2 hHeld ?_
  refine sk 3 hHeld ?_
  refine sk 4 hHeld ?_
  refine sk 5 hHeld ?_
  refine sk 6 hHeld ?_
  refine sk 7 hHeld ?_
  refine sk 8 hHeld ?_
  refine sk 9 hHeld ?_
  refine tk 10 hHeld ?_
  refine dn ?_
  have HK:=hid' (And.intro (HK.out.1.trans KR) (And.intro (HK.out.2.1.kept KR) (And.intro (HK.out.2.2.1.kept KR) (HK.out.2.2.2.kept KR))))
  clear sS hHeld
  generalize Wd = W3 at HK ⊢
  clear KR
  have hw1:IntKind.i64.wrap ((n:Int) - 1) = (n:Int) - 1:=by rw [IntKind.wrap_i64]; omega
  by_cases him:0 < n - 1
  ·
   have HIM:=hid' him
   have him':((0:Nat):Int) < (n:Int) - 1:=by omega
   have him2:(1:Int) < (n:Int):=by have:=HIM.out; omega
   clear him
   go_upto_region 3 with fail
   have KR:Kept W3 W3.drew:=(Kept.refl _).drew
   have sS:=hid' (fun (V:World) (K:Kept W3 V) => (show V.cell? ⟨p,0,none⟩ = some (.string s)/\V.cell? ⟨p,1,none⟩ = some (.int .u8 k)/\V.cell? ⟨p,2,none⟩ = some (.slice a1 n c)/\V.cell? ⟨p,3,none⟩ = some (.slice a2 m c')/\V.cell? ⟨q,0,none⟩ = some (.bool u0)/\V.cell? ⟨q,1,none⟩ = some (.slice u1 u2 u3)/\V.cell? ⟨q,2,none⟩ = some (.bool u4)/\V.cell? ⟨q,3,none⟩ = some (.slice u5 u6 u7) from by
    have r1:=HK.out.2.1.kept K
    have r2:=HK.out.2.2.1.kept K
    exact ⟨r1.c0,r1.c1,r1.c2,r1.c3,r2.c0,r2.c1,r2.c2,r2.c3⟩))
   refine wp_region_held_drew (S:=fun w' => w'.cell? ⟨p,0,none⟩ = some (.string s)/\w'.cell? ⟨p,1,none⟩ = some (.int .u8 k)/\w'.cell? ⟨p,2,none⟩ = some (.slice a1 n c)/\w'.cell? ⟨p,3,none⟩ = some (.slice a2 m c')/\w'.cell? ⟨q,0,none⟩ = some (.bool u0)/\w'.cell? ⟨q,1,none⟩ = some (.slice u1 u2 u3)/\w'.cell? ⟨q,2,none⟩ = some (.bool u4)/\w'.cell? ⟨q,3,none⟩ = some (.slice u5 u6 u7)) (by kernel_rfl) (sS.out _ KR) (fun hHeld => ?_)
   generalize W3.drew = Wd at KR hHeld ⊢
   refine tk 0 hHeld ?_
   refine tk 1 hHeld ?_
   refine tk 2 hHeld ?_
   refine tk 3 hHeld ?_
   refine tk 4 hHeld ?_
   refine tk 5 hHeld ?_
   refine tk 6 hHeld ?_
   refine tk 7 hHeld ?_
   refine tk 8 hHeld ?_
   refine tk 9 hHeld ?_
   refine rdy 10 fun K hK => ?_
   go_simp
   refine (knotR_any s k a1 a2 n c m c' vs (0) _ (HS.out.2.kept (HK.out.1.trans KR)) (by have:=HL.out; omega) (HV.out (0) (by have:=HL.out; omega))).mono ?_
   rintro e wk1 ⟨hkk,uk,rfl,fk⟩
   have KR:=KR.trans hkk
   refine hK.out _ _ (sS.out _ KR) (fun hHeld => ?_)
   clear hK K hkk
   refine rdy 11 fun K hK => ?_
   go_simp
   refine (held_knot _ (HK.out.2.2.2.kept KR) fk).mono ?_
   rintro e W4 ⟨hkk,rfl⟩
   have KR:=KR.trans hkk
   obtain ⟨ag2,hag2⟩:∃ ag,ag = agn N D (vs.getD (0) (0,0)):=⟨_,rfl⟩
   rw [<- hag2]
   have Hag2:=hid' hag2
   refine hK.out _ _ (sS.out _ KR) (fun hHeld => ?_)
   have HK:=hid' (And.intro (HK.out.1.trans KR) (And.intro (HK.out.2.1.kept KR) (And.intro (HK.out.2.2.1.kept KR) (HK.out.2.2.2.kept KR))))
   clear hK K hkk fk hag2 KR sS
   by_cases g2:0 < ag2
   ·
    have HG2:=hid' g2
    refine tk 12 hHeld ?_
    refine tk 13 hHeld ?_
    refine dn ?_
    clear hHeld
    go_wp2_with fail
    go_ret
    refine ⟨HK.out.1,congrArg (fun z => Ending.returned (Value.int IntKind.i64 z)) ?_⟩
    symm
    unfold sideS; rw [if_neg (fun h => absurd h.1 (by omega)),if_pos ⟨by have:=HIM.out; have:=HL.out; omega,by rw [<- Hag2.out]; exact HG2.out⟩]
   ·
    have HG2:=hid' g2
    refine tk 12 hHeld ?_
    refine tk 13 hHeld ?_
    refine dn ?_
    clear hHeld
    go_wp2_with fail
    go_ret
    refine ⟨HK.out.1,congrArg (fun z => Ending.returned (Value.int IntKind.i64 z)) ?_⟩
    symm
    unfold sideS; rw [if_neg (fun h => absurd h.1 (by omega)),if_neg (fun h => by have:=HG2.out; have h2:=h.2; rw [<- Hag2.out] at h2; omega)]
  ·
   have HIM:=hid' him
   have him':¬ ((0:Nat):Int) < (n:Int) - 1:=by have:=HL.out; omega
   have him2:¬ (1:Int) < (n:Int):=by have:=HIM.out; omega
   clear him
   go_upto_region 3 with fail
   have KR:Kept W3 W3.drew:=(Kept.refl _).drew
   have sS:=hid' (fun (V:World) (K:Kept W3 V) => (show V.cell? ⟨p,0,none⟩ = some (.string s)/\V.cell? ⟨p,1,none⟩ = some (.int .u8 k)/\V.cell? ⟨p,2,none⟩ = some (.slice a1 n c)/\V.cell? ⟨p,3,none⟩ = some (.slice a2 m c')/\V.cell? ⟨q,0,none⟩ = some (.bool u0)/\V.cell? ⟨q,1,none⟩ = some (.slice u1 u2 u3)/\V.cell? ⟨q,2,none⟩ = some (.bool u4)/\V.cell? ⟨q,3,none⟩ = some (.slice u5 u6 u7) from by
    have r1:=HK.out.2.1.kept K
    have r2:=HK.out.2.2.1.kept K
    exact ⟨r1.c0,r1.c1,r1.c2,r1.c3,r2.c0,r2.c1,r2.c2,r2.c3⟩))
   refine wp_region_held_drew (S:=fun w' => w'.cell? ⟨p,0,none⟩ = some (.string s)/\w'.cell? ⟨p,1,none⟩ = some (.int .u8 k)/\w'.cell? ⟨p,2,none⟩ = some (.slice a1 n c)/\w'.cell? ⟨p,3,none⟩ = some (.slice a2 m c')/\w'.cell? ⟨q,0,none⟩ = some (.bool u0)/\w'.cell? ⟨q,1,none⟩ = some (.slice u1 u2 u3)/\w'.cell? ⟨q,2,none⟩ = some (.bool u4)/\w'.cell? ⟨q,3,none⟩ = some (.slice u5 u6 u7)) (by kernel_rfl) (sS.out _ KR) (fun hHeld => ?_)
   generalize W3.drew = Wd at KR hHeld ⊢
   refine tk 0 hHeld ?_
   refine tk 1 hHeld ?_
   refine tk 2 hHeld ?_
   refine tk 3 hHeld ?_
   refine tk 4 hHeld ?_
   refine tk 5 hHeld ?_
   refine tk 6 hHeld ?_
   refine sk 7 hHeld ?_
   refine sk 8 hHeld ?_
   refine sk 9 hHeld ?_
   refine sk 10 hHeld ?_
   refine sk 11 hHeld ?_
   refine sk 12 hHeld ?_
   refine tk 13 hHeld ?_
   refine dn ?_
   have HK:=hid' (And.intro (HK.out.1.trans KR) (And.intro (HK.out.2.1.kept KR) (And.intro (HK.out.2.2.1.kept KR) (HK.out.2.2.2.kept KR))))
   clear sS hHeld
   generalize Wd = W4 at HK ⊢
   clear KR
   go_wp2_with fail
   go_ret
   refine ⟨HK.out.1,congrArg (fun z => Ending.returned (Value.int IntKind.i64 z)) ?_⟩
   symm
   unfold sideS; rw [if_neg (fun h => absurd h.1 (by omega)),if_neg (fun h => by have h1:=h.1; have:=HIM.out; have:=HL.out; omega)]
 ·
  obtain ⟨i0,rfl⟩:∃ i0,i = i0 + 1:=⟨i - 1,by omega⟩
  have ec:((i0 + 1:Nat):Int) = (i0:Int) + 1:=by omega
  rw [ec]
  have hi1:(0:Int) < (i0:Int) + 1:=by omega
  have hi2:(i0:Int) + 1 - 1 = (i0:Int):=by omega
  have hi3:IntKind.i64.wrap (i0:Int) = (i0:Int):=by rw [IntKind.wrap_i64]; omega
  clear hi0 ec hi4
  go_upto_region 1 with fail
  have KR:Kept W W.drew:=(Kept.refl _).drew
  have sS:=hid' (fun (V:World) (K:Kept W V) => (show V.cell? ⟨p,0,none⟩ = some (.string s)/\V.cell? ⟨p,1,none⟩ = some (.int .u8 k)/\V.cell? ⟨p,2,none⟩ = some (.slice a1 n c)/\V.cell? ⟨p,3,none⟩ = some (.slice a2 m c')/\V.cell? ⟨q,0,none⟩ = some (.bool u0)/\V.cell? ⟨q,1,none⟩ = some (.slice u1 u2 u3)/\V.cell? ⟨q,2,none⟩ = some (.bool u4)/\V.cell? ⟨q,3,none⟩ = some (.slice u5 u6 u7) from by
   have r1:=HK.out.2.1.kept K
   have r2:=HK.out.2.2.1.kept K
   exact ⟨r1.c0,r1.c1,r1.c2,r1.c3,r2.c0,r2.c1,r2.c2,r2.c3⟩))
  refine wp_region_held_drew (S:=fun w' => w'.cell? ⟨p,0,none⟩ = some (.string s)/\w'.cell? ⟨p,1,none⟩ = some (.int .u8 k)/\w'.cell? ⟨p,2,none⟩ = some (.slice a1 n c)/\w'.cell? ⟨p,3,none⟩ = some (.slice a2 m c')/\w'.cell? ⟨q,0,none⟩ = some (.bool u0)/\w'.cell? ⟨q,1,none⟩ = some (.slice u1 u2 u3)/\w'.cell? ⟨q,2,none⟩ = some (.bool u4)/\w'.cell? ⟨q,3,none⟩ = some (.slice u5 u6 u7)) (by kernel_rfl) (sS.out _ KR) (fun hHeld => ?_)
  generalize W.drew = Wd at KR hHeld ⊢
  refine tk 0 hHeld ?_
  refine tk 1 hHeld ?_
  refine tk 2 hHeld ?_
  refine tk 3 hHeld ?_
  refine tk 4 hHeld ?_
  refine tk 5 hHeld ?_
  refine tk 6 hHeld ?_
  refine rdy 7 fun K hK => ?_
  go_simp
  refine (knotR_any s k a1 a2 n c m c' vs (i0) _ (HS.out.2.kept (HK.out.1.trans KR)) (by have:=HL.out; omega) (HV.out (i0) (by have:=HL.out; omega))).mono ?_
  rintro e wk4 ⟨hkk,uk,rfl,fk⟩
  have KR:=KR.trans hkk
  refine hK.out _ _ (sS.out _ KR) (fun hHeld => ?_)
  clear hK K hkk
  refine rdy 8 fun K hK => ?_
  go_simp
  refine (held_knot _ (HK.out.2.2.2.kept KR) fk).mono ?_
  rintro e W3 ⟨hkk,rfl⟩
  have KR:=KR.trans hkk
  obtain ⟨ag1,hag1⟩:∃ ag,ag = agn N D (vs.getD (i0) (0,0)):=⟨_,rfl⟩
  rw [<- hag1]
  have Hag1:=hid' hag1
  refine hK.out _ _ (sS.out _ KR) (fun hHeld => ?_)
  have HK:=hid' (And.intro (HK.out.1.trans KR) (And.intro (HK.out.2.1.kept KR) (And.intro (HK.out.2.2.1.kept KR) (HK.out.2.2.2.kept KR))))
  clear hK K hkk fk hag1 KR sS
  by_cases g1:ag1 < 0
  ·
   have HG1:=hid' g1
   refine tk 9 hHeld ?_
   refine tk 10 hHeld ?_
   refine dn ?_
   clear hHeld
   go_wp2_with fail
   go_ret
   refine ⟨HK.out.1,congrArg (fun z => Ending.returned (Value.int IntKind.i64 z)) ?_⟩
   symm
   unfold sideS; rw [if_pos ⟨Nat.succ_pos _,by rw [Nat.add_sub_cancel,<- Hag1.out]; exact HG1.out⟩]
  ·
   have HG1:=hid' g1
   refine tk 9 hHeld ?_
   refine tk 10 hHeld ?_
   refine dn ?_
   clear hHeld
   have hw1:IntKind.i64.wrap ((n:Int) - 1) = (n:Int) - 1:=by rw [IntKind.wrap_i64]; omega
   by_cases him:i0 + 1 < n - 1
   ·
    have HIM:=hid' him
    have him':(i0:Int) + 1 < (n:Int) - 1:=by omega
    clear him
    go_upto_region 3 with fail
    have KR:Kept W3 W3.drew:=(Kept.refl _).drew
    have sS:=hid' (fun (V:World) (K:Kept W3 V) => (show V.cell? ⟨p,0,none⟩ = some (.string s)/\V.cell? ⟨p,1,none⟩ = some (.int .u8 k)/\V.cell? ⟨p,2,none⟩ = some (.slice a1 n c)/\V.cell? ⟨p,3,none⟩ = some (.slice a2 m c')/\V.cell? ⟨q,0,none⟩ = some (.bool u0)/\V.cell? ⟨q,1,none⟩ = some (.slice u1 u2 u3)/\V.cell? ⟨q,2,none⟩ = some (.bool u4)/\V.cell? ⟨q,3,none⟩ = some (.slice u5 u6 u7) from by
     have r1:=HK.out.2.1.kept K
     have r2:=HK.out.2.2.1.kept K
     exact ⟨r1.c0,r1.c1,r1.c2,r1.c3,r2.c0,r2.c1,r2.c2,r2.c3⟩))
    refine wp_region_held_drew (S:=fun w' => w'.cell? ⟨p,0,none⟩ = some (.string s)/\w'.cell? ⟨p,1,none⟩ = some (.int .u8 k)/\w'.cell? ⟨p,2,none⟩ = some (.slice a1 n c)/\w'.cell? ⟨p,3,none⟩ = some (.slice a2 m c')/\w'.cell? ⟨q,0,none⟩ = some (.bool u0)/\w'.cell? ⟨q,1,none⟩ = some (.slice u1 u2 u3)/\w'.cell? ⟨q,2,none⟩ = some (.bool u4)/\w'.cell? ⟨q,3,none⟩ = some (.slice u5 u6 u7)) (by kernel_rfl) (sS.out _ KR) (fun hHeld => ?_)
    generalize W3.drew = Wd at KR hHeld ⊢
    refine tk 0 hHeld ?_
    refine tk 1 hHeld ?_
    refine tk 2 hHeld ?_
    refine tk 3 hHeld ?_
    refine tk 4 hHeld ?_
    refine tk 5 hHeld ?_
    refine tk 6 hHeld ?_
    refine tk 7 hHeld ?_
    refine tk 8 hHeld ?_
    refine tk 9 hHeld ?_
    refine rdy 10 fun K hK => ?_
    go_simp
    refine (knotR_any s k a1 a2 n c m c' vs (i0 + 1) _ (HS.out.2.kept (HK.out.1.trans KR)) (by have:=HL.out; omega) (HV.out (i0 + 1) (by have:=HL.out; omega))).mono ?_
    rintro e wk5 ⟨hkk,uk,rfl,fk⟩
    have KR:=KR.trans hkk
    refine hK.out _ _ (sS.out _ KR) (fun hHeld => ?_)
    clear hK K hkk
    refine rdy 11 fun K hK => ?_
    go_simp
    refine (held_knot _ (HK.out.2.2.2.kept KR) fk).mono ?_
    rintro e W4 ⟨hkk,rfl⟩
    have KR:=KR.trans hkk
    obtain ⟨ag2,hag2⟩:∃ ag,ag = agn N D (vs.getD (i0 + 1) (0,0)):=⟨_,rfl⟩
    rw [<- hag2]
    have Hag2:=hid' hag2
    refine hK.out _ _ (sS.out _ KR) (fun hHeld => ?_)
    have HK:=hid' (And.intro (HK.out.1.trans KR) (And.intro (HK.out.2.1.kept KR) (And.intro (HK.out.2.2.1.kept KR) (HK.out.2.2.2.kept KR))))
    clear hK K hkk fk hag2 KR sS
    by_cases g2:0 < ag2
    ·
     have HG2:=hid' g2
     refine tk 12 hHeld ?_
     refine tk 13 hHeld ?_
     refine dn ?_
     clear hHeld
     go_wp2_with fail
     go_ret
     refine ⟨HK.out.1,congrArg (fun z => Ending.returned (Value.int IntKind.i64 z)) ?_⟩
     symm
     unfold sideS; rw [if_neg (fun h => by have:=HG1.out; have h2:=h.2; rw [Nat.add_sub_cancel,<- Hag1.out] at h2; omega),if_pos ⟨by have:=HIM.out; have:=HL.out; omega,by rw [<- Hag2.out]; exact HG2.out⟩]
    ·
     have HG2:=hid' g2
     refine tk 12 hHeld ?_
     refine tk 13 hHeld ?_
     refine dn ?_
     clear hHeld
     go_wp2_with fail
     go_ret
     refine ⟨HK.out.1,congrArg (fun z => Ending.returned (Value.int IntKind.i64 z)) ?_⟩
     symm
     unfold sideS; rw [if_neg (fun h => by have:=HG1.out; have h2:=h.2; rw [Nat.add_sub_cancel,<- Hag1.out] at h2; omega),if_neg (fun h => by have:=HG2.out; have h2:=h.2; rw [<- Hag2.out] at h2; omega)]
   ·
    have HIM:=hid' him
    have him':¬ (i0:Int) + 1 < (n:Int) - 1:=by have:=HL.out; omega
    clear him
    go_upto_region 3 with fail
    have KR:Kept W3 W3.drew:=(Kept.refl _).drew
    have sS:=hid' (fun (V:World) (K:Kept W3 V) => (show V.cell? ⟨p,0,none⟩ = some (.string s)/\V.cell? ⟨p,1,none⟩ = some (.int .u8 k)/\V.cell? ⟨p,2,none⟩ = some (.slice a1 n c)/\V.cell? ⟨p,3,none⟩ = some (.slice a2 m c')/\V.cell? ⟨q,0,none⟩ = some (.bool u0)/\V.cell? ⟨q,1,none⟩ = some (.slice u1 u2 u3)/\V.cell? ⟨q,2,none⟩ = some (.bool u4)/\V.cell? ⟨q,3,none⟩ = some (.slice u5 u6 u7) from by
     have r1:=HK.out.2.1.kept K
     have r2:=HK.out.2.2.1.kept K
     exact ⟨r1.c0,r1.c1,r1.c2,r1.c3,r2.c0,r2.c1,r2.c2,r2.c3⟩))
    refine wp_region_held_drew (S:=fun w' => w'.cell? ⟨p,0,none⟩ = some (.string s)/\w'.cell? ⟨p,1,none⟩ = some (.int .u8 k)/\w'.cell? ⟨p,2,none⟩ = some (.slice a1 n c)/\w'.cell? ⟨p,3,none⟩ = some (.slice a2 m c')/\w'.cell? ⟨q,0,none⟩ = some (.bool u0)/\w'.cell? ⟨q,1,none⟩ = some (.slice u1 u2 u3)/\w'.cell? ⟨q,2,none⟩ = some (.bool u4)/\w'.cell? ⟨q,3,none⟩ = some (.slice u5 u6 u7)) (by kernel_rfl) (sS.out _ KR) (fun hHeld => ?_)
    generalize W3.drew = Wd at KR hHeld ⊢
    refine tk 0 hHeld ?_
    refine tk 1 hHeld ?_
    refine tk 2 hHeld ?_
    refine tk 3 hHeld ?_
    refine tk 4 hHeld ?_
    refine tk 5 hHeld ?_
    refine tk 6 hHeld ?_
    refine sk 7 hHeld ?_
    refine sk 8 hHeld ?_
    refine sk 9 hHeld ?_
    refine sk 10 hHeld ?_
    refine sk 11 hHeld ?_
    refine sk 12 hHeld ?_
    refine tk 13 hHeld ?_
    refine dn ?_
    have HK:=hid' (And.intro (HK.out.1.trans KR) (And.intro (HK.out.2.1.kept KR) (And.intro (HK.out.2.2.1.kept KR) (HK.out.2.2.2.kept KR))))
    clear sS hHeld
    generalize Wd = W4 at HK ⊢
    clear KR
    go_wp2_with fail
    go_ret
    refine ⟨HK.out.1,congrArg (fun z => Ending.returned (Value.int IntKind.i64 z)) ?_⟩
    symm
    unfold sideS; rw [if_neg (fun h => by have:=HG1.out; have h2:=h.2; rw [Nat.add_sub_cancel,<- Hag1.out] at h2; omega),if_neg (fun h => by have h1:=h.1; have:=HIM.out; have:=HL.out; omega)]
open Q (hid' Row3 Row2 okN okN_bd Scl RQ)
open Classical in
noncomputable def refU (sg nA:Bool) (an ad:List Nat):Int:=if R sg an/\R nA ad then if F.RatR sg nA an ad then 0 else 20 else 10
theorem refused_is {sg nA:Bool} {an ad:List Nat} {cc:Int} (h:F.Refused 1 (fun _ => sg) (fun _ => nA) (fun _ => an) (fun _ => ad) cc):cc = refU sg nA an ad:=by
 unfold refU
 rcases h with ⟨rfl,i,_,h⟩ | ⟨h1,⟨rfl,i,_,h⟩ | ⟨rfl,h⟩⟩
 ·
  rw [if_neg h]
 ·
  rw [if_pos (h1 0 (by omega)),if_neg (fun r => h ⟨r.pos,r.low⟩)]
 ·
  rw [if_pos (h1 0 (by omega)),if_pos ⟨(h1 0 (by omega)).1,(h1 0 (by omega)).2,(h 0 (by omega)).1,(h 0 (by omega)).2⟩]
theorem fault_is {sg nA:Bool} {an ad:List Nat} {cc:Int} (h:(cc = 10/\¬ (R sg an/\R nA ad)) ∨ (cc = 20/\R sg an/\R nA ad/\¬ F.RatR sg nA an ad) ∨ (cc = 0/\F.RatR sg nA an ad)):cc = refU sg nA an ad/\(cc = 0->F.RatR sg nA an ad):=by
 unfold refU
 rcases h with ⟨rfl,h⟩ | ⟨rfl,h1,h2,h⟩ | ⟨rfl,h⟩
 ·
  rw [if_neg h]; exact ⟨rfl,fun e => by omega⟩
 ·
  rw [if_pos ⟨h1,h2⟩,if_neg h]; exact ⟨rfl,fun e => by omega⟩
 ·
  rw [if_pos ⟨h.ra,h.rd⟩,if_pos h]; exact ⟨rfl,fun _ => h⟩
def sideT (r u S:Int):Int × Int:=if r = 0 then if u = 0 then (S,0) else (0,u) else (0,r)
theorem side_is {r:Int} {sg nA:Bool} {an ad:List Nat} {vs:List (Int × Int)} {i z f:Int} (h:SideIs r sg nA an ad vs i z f):z = (sideT r (refU sg nA an ad) (sideS (M.int sg an) (M.val ad) vs i.toNat)).1/\f = (sideT r (refU sg nA an ad) (sideS (M.int sg an) (M.val ad) vs i.toNat)).2:=by
 unfold sideT
 rcases h with ⟨h0,rfl,rfl⟩ | ⟨h0,cc,hcc,⟨h1,rfl,rfl⟩ | ⟨h1,rfl,rfl⟩⟩
 ·
  rw [if_neg h0]; exact ⟨rfl,rfl⟩
 ·
  rw [<- refused_is hcc,if_pos h0,if_neg h1]; exact ⟨rfl,rfl⟩
 ·
  rw [<- refused_is hcc,if_pos h0,if_pos h1]; exact ⟨rfl,rfl⟩
def findT (ok:Bool) (u S:Int):Int × Int:=if ok = true then if u = 0 then (S,0) else (0,u) else (0,50)
theorem find_is {ok:Bool} {sg nA:Bool} {an ad:List Nat} {vs:List (Int × Int)} {z f:Int} (h:FindIs ok sg nA an ad vs z f):z = (findT ok (refU sg nA an ad) (cntA (M.int sg an) (M.val ad) vs)).1/\f = (findT ok (refU sg nA an ad) (cntA (M.int sg an) (M.val ad) vs)).2:=by
 unfold findT
 rcases h with ⟨h0,rfl,rfl⟩ | ⟨h0,cc,hcc,⟨h1,rfl,rfl⟩ | ⟨h1,rfl,rfl⟩⟩
 ·
  rw [h0]; exact ⟨rfl,rfl⟩
 ·
  rw [<- refused_is hcc,if_pos h0,if_neg h1]; exact ⟨rfl,rfl⟩
 ·
  rw [<- refused_is hcc,if_pos h0,if_pos h1]; exact ⟨rfl,rfl⟩
theorem fx_of {w:World} {v:Value} {sg nA:Bool} {an ad:List Nat} (h:F.FIs w v (M.int sg an) (M.int nA ad) (2 * an.length) (2 * ad.length)) (r:F.RatR sg nA an ad):FX w v (M.int sg an) (M.val ad):=by
 rw [r.val] at h
 obtain ⟨s,ao,n,c,t,ap,n',c',rfl,n1,n2,l1,l2⟩:=h
 have a:=r.ra.1
 have b:=r.rd.1
 exact ⟨⟨s,ao,n,c,t,ap,n',c',rfl,n1,n2,by omega,by omega⟩,r.vpos⟩
set_option maxRecDepth 100000 in
set_option maxHeartbeats 8000000 in
theorem sideR_any (s:ByteArray) (k:Int) (a1 a2:Option Addr) (n c m c':Nat) (gs vs:List (Int × Int)) (i':Int) (sg nA:Bool) (b1 b2:Option Addr) (k1 c1 k2 c2:Nat) (an ad:List Nat) (w:World) (hs:s.size<=9223372036854775807) (h1:NSl w (.slice a1 n c) gs) (h2:NSl w (.slice a2 m c') vs) (hn:n<=4611686018427387903) (hm:m<=4611686018427387903)
  (ha:Sl w (.slice b1 k1 c1) an) (had:Sl w (.slice b2 k2 c2) ad) (hla:an.length<=9223372036854775807) (hld:ad.length<=9223372036854775807) :
  Calls Tryz.prog 12 #[.agg #[.string s,.int .u8 k,.slice a1 n c,.slice a2 m c'],.int .i64 i',.agg #[.bool sg,.slice b1 k1 c1,.bool nA,.slice b2 k2 c2]] w fun e w' => Kept w w'/\e = .returned (.tuple #[.int .i64 (sideT (refM s.data.toList k gs vs i') (refU sg nA an ad) (sideS (M.int sg an) (M.val ad) vs i'.toNat)).1,.int .i64 (sideT (refM s.data.toList k gs vs i') (refU sg nA an ad) (sideS (M.int sg an) (M.val ad) vs i'.toNat)).2]):=by
 have HS:=hid' (And.intro h1 (And.intro h2 (And.intro ha (And.intro had (And.intro hla hld)))))
 have HL0:=hid' (show m = vs.length/\n = gs.length from ⟨h2.len,h1.len⟩)
 clear h1 h2 ha had hla hld
 obtain ⟨rf,hrf⟩:∃ rf,rf = refM s.data.toList k gs vs i':=⟨_,rfl⟩
 rw [<- hrf]
 have HRE:=hid' hrf
 obtain ⟨ru,hru⟩:∃ ru,ru = refU sg nA an ad:=⟨_,rfl⟩
 rw [<- hru]
 have HRU:=hid' hru
 clear hrf hru
 have HFF:=hid' (rfaultM_any s k a1 a2 n c m c' gs vs i')
 have HFU:=hid' (F.Fault_any sg nA b1 b2 k1 c1 k2 c2 an ad)
 obtain ⟨SS,hSS⟩:∃ SS,SS = sideS (M.int sg an) (M.val ad) vs i'.toNat:=⟨_,rfl⟩
 rw [<- hSS]
 have HSS:=hid' hSS
 clear hSS
 obtain ⟨o1,ho1⟩:∃ o,o = (sideT rf ru SS).1:=⟨_,rfl⟩
 obtain ⟨o2,ho2⟩:∃ o,o = (sideT rf ru SS).2:=⟨_,rfl⟩
 rw [<- ho1,<- ho2]
 have HO:=hid' (And.intro ho1 ho2)
 clear ho1 ho2
 go_enter Tryz.func12,Tryz.ntmps12
 go_upto_region 1 with fail
 have hM:=(Row4.alloc 24 w (.string s) (.int .u8 k) (.slice a1 n c) (.slice a2 m c')).kept ((Kept.refl (w.alloc (.cells #[.string s,.int .u8 k,.slice a1 n c,.slice a2 m c'] 24))).alloc (.cells #[.bool sg,.slice b1 k1 c1,.bool nA,.slice b2 k2 c2] 29))
 have hU:=F.RRow.alloc (w.alloc (.cells #[.string s,.int .u8 k,.slice a1 n c,.slice a2 m c'] 24)) (.bool sg) (.slice b1 k1 c1) (.bool nA) (.slice b2 k2 c2)
 have hK:=(((Kept.refl w).alloc (.cells #[.string s,.int .u8 k,.slice a1 n c,.slice a2 m c'] 24)).alloc (.cells #[.bool sg,.slice b1 k1 c1,.bool nA,.slice b2 k2 c2] 29))
 simp only [World.size_alloc] at hU
 generalize (w.alloc (.cells #[.string s,.int .u8 k,.slice a1 n c,.slice a2 m c'] 24)).alloc (.cells #[.bool sg,.slice b1 k1 c1,.bool nA,.slice b2 k2 c2] 29) = W at hM hU hK ⊢
 obtain ⟨q,hqq⟩:∃ q,q = w.heap.size + 1:=⟨_,rfl⟩
 rw [<- hqq] at hU ⊢
 obtain ⟨p,hqp⟩:∃ q,q = w.heap.size:=⟨_,rfl⟩
 rw [<- hqp] at hM ⊢
 clear hqp hqq
 have HK:=hid' (And.intro hK (And.intro hM hU))
 clear hK hM hU
 have q0:=HK.out.2.1.c0
 have q1:=HK.out.2.1.c1
 have q2:=HK.out.2.1.c2
 have q3:=HK.out.2.1.c3
 go_wp2_with fail
 refine (HFF.out _ hs (HS.out.1.kept HK.out.1) (HS.out.2.1.kept HK.out.1) hn hm).mono ?_
 rintro e w2 ⟨hk2,rfl⟩
 have HK:=hid' (And.intro (HK.out.1.trans hk2) (And.intro (HK.out.2.1.kept hk2) (HK.out.2.2.kept hk2)))
 clear hk2 q0 q1 q2 q3 HFF
 rw [<- HRE.out]
 by_cases hr0:rf = 0
 ·
  have HRZ:=hid' (refM_zero (s:=s.data.toList) (k:=k) (gs:=gs) (vs:=vs) (i:=i') (by rw [<- HRE.out]; exact hr0))
  clear HRE
  subst hr0
  have q0:=HK.out.2.2.c0
  have q1:=HK.out.2.2.c1
  have q2:=HK.out.2.2.c2
  have q3:=HK.out.2.2.c3
  go_wp2_with fail
  refine (HFU.out _ (HS.out.2.2.1.kept HK.out.1) (HS.out.2.2.2.1.kept HK.out.1) HS.out.2.2.2.2.1 HS.out.2.2.2.2.2).mono ?_
  rintro e w3 ⟨hk3,cc,rfl,hcc⟩
  obtain ⟨h1,h2⟩:=fault_is hcc
  have HCC:=hid' (And.intro (h1.trans HRU.out.symm) h2)
  have HK:=hid' (And.intro (HK.out.1.trans hk3) (And.intro (HK.out.2.1.kept hk3) (HK.out.2.2.kept hk3)))
  clear hk3 q0 q1 q2 q3 HFU hcc h1 h2
  by_cases hc0:cc = 0
  ·
   have HR:=hid' (HCC.out.2 hc0)
   have HRN:=hid' (show ru = 0 by rw [<- HCC.out.1]; exact hc0)
   subst hc0
   have HRF:=hid' HRZ.out.1
   obtain ⟨i,rfl⟩:∃ i:Nat,i' = (i:Int):=⟨i'.toNat,by have:=HRZ.out.2; omega⟩
   have HOA:=hid' (okM_all HRF.out)
   have HL:=hid' (show m = vs.length/\n = gs.length/\n = m + 1/\n<=4/\i < n by
    have e0:=HL0.out
    have e3:=fits_len HOA.out.2.2.2
    exact ⟨e0.1,e0.2,by omega,by omega,by have:=HRZ.out.2; omega⟩)
   have HV:=hid' (okM_at HRF.out).2
   have HV:=hid' (fun j (hj:j < m) => HV.out j (by have:=HL.out; omega))
   go_upto_region 6 with fail
   have KR:Kept w3 w3.drew:=(Kept.refl _).drew
   have sS:=hid' (fun (V:World) (K:Kept w3 V) => (show V.cell? ⟨p,0,none⟩ = some (.string s)/\V.cell? ⟨p,1,none⟩ = some (.int .u8 k)/\V.cell? ⟨p,2,none⟩ = some (.slice a1 n c)/\V.cell? ⟨p,3,none⟩ = some (.slice a2 m c')/\V.cell? ⟨q,0,none⟩ = some (.bool sg)/\V.cell? ⟨q,1,none⟩ = some (.slice b1 k1 c1)/\V.cell? ⟨q,2,none⟩ = some (.bool nA)/\V.cell? ⟨q,3,none⟩ = some (.slice b2 k2 c2) from by
    have r1:=HK.out.2.1.kept K
    have r2:=HK.out.2.2.kept K
    exact ⟨r1.c0,r1.c1,r1.c2,r1.c3,r2.c0,r2.c1,r2.c2,r2.c3⟩))
   refine wp_region_held_drew (S:=fun w' => w'.cell? ⟨p,0,none⟩ = some (.string s)/\w'.cell? ⟨p,1,none⟩ = some (.int .u8 k)/\w'.cell? ⟨p,2,none⟩ = some (.slice a1 n c)/\w'.cell? ⟨p,3,none⟩ = some (.slice a2 m c')/\w'.cell? ⟨q,0,none⟩ = some (.bool sg)/\w'.cell? ⟨q,1,none⟩ = some (.slice b1 k1 c1)/\w'.cell? ⟨q,2,none⟩ = some (.bool nA)/\w'.cell? ⟨q,3,none⟩ = some (.slice b2 k2 c2)) (by kernel_rfl) (sS.out _ KR) (fun hHeld => ?_)
   generalize w3.drew = Wd at KR hHeld ⊢
   refine tk 0 hHeld ?_
   refine tk 1 hHeld ?_
   refine tk 2 hHeld ?_
   refine rdy 3 fun K hK => ?_
   go_simp
   refine (F.FTake_any sg nA b1 b2 k1 c1 k2 c2 an ad _ (HS.out.2.2.1.kept (HK.out.1.trans KR)) (HS.out.2.2.2.1.kept (HK.out.1.trans KR)) (by have:=HR.out.ra.1; omega) (by have:=HR.out.rd.1; omega)).mono ?_
   rintro e wt ⟨hkt,ut,rfl,ft⟩
   have fx:=fx_of ft HR.out
   obtain ⟨y0,y1,y2,y3,y4,y5,y6,y7,rfl⟩:=fx.shape
   have KR:=KR.trans hkt
   refine hK.out _ _ (sS.out _ KR) (fun hHeld => ?_)
   clear hK K hkt ft
   refine rdy 4 fun K hK => ?_
   go_simp
   refine (liesR_any s k a1 a2 n c m c' gs vs i _ _ y0 y1 y2 y3 y4 y5 y6 y7 _ (HS.out.1.kept (HK.out.1.trans KR)) (HS.out.2.1.kept (HK.out.1.trans KR)) hn hm HL.out.2.2.1 (by have:=HL.out; omega) (fun j hj => HV.out j (by have:=HL.out; omega)) fx).mono ?_
   rintro e wl ⟨hkl,rfl⟩
   have KR:=KR.trans hkl
   have HSI:=hid' (show sideS (M.int sg an) (M.val ad) vs i = SS by rw [HSS.out,Int.toNat_natCast])
   rw [HSI.out]
   refine hK.out _ _ (sS.out _ KR) (fun hHeld => ?_)
   have HK2:=hid' (HK.out.1.trans KR)
   clear hK K hkl fx
   refine tk 5 hHeld ?_
   refine tk 6 hHeld ?_
   refine dn ?_
   clear hHeld sS KR
   go_wp2_with fail
   go_ret2
   exact ⟨HK2.out,by rw [HO.out.1,HO.out.2,HRN.out]; rfl⟩
  ·
   have hc1:(cc != 0) = true:=by simpa using hc0
   have HC0:=hid' hc0
   go_wp2_with fail
   go_ret2
   exact ⟨HK.out.1,by rw [HO.out.1,HO.out.2,<- HCC.out.1]; unfold sideT; rw [if_pos rfl,if_neg HC0.out]; rfl⟩
 ·
  have hr1:(rf == 0) = false:=by simpa using hr0
  have hr2:(rf != 0) = true:=by simpa using hr0
  have HR0:=hid' hr0
  go_wp2_with fail
  go_ret2
  exact ⟨HK.out.1,by rw [HO.out.1,HO.out.2]; unfold sideT; rw [if_neg HR0.out]; rfl⟩
set_option maxRecDepth 100000 in
set_option maxHeartbeats 8000000 in
theorem findR_any (s:ByteArray) (k:Int) (a1 a2:Option Addr) (n c m c':Nat) (gs vs:List (Int × Int)) (sg nA:Bool) (b1 b2:Option Addr) (k1 c1 k2 c2:Nat) (an ad:List Nat) (w:World) (hs:s.size<=9223372036854775807) (h1:NSl w (.slice a1 n c) gs) (h2:NSl w (.slice a2 m c') vs) (hn:n<=4611686018427387903) (hm:m<=4611686018427387903)
  (ha:Sl w (.slice b1 k1 c1) an) (had:Sl w (.slice b2 k2 c2) ad) (hla:an.length<=9223372036854775807) (hld:ad.length<=9223372036854775807) :
  Calls Tryz.prog 14 #[.agg #[.string s,.int .u8 k,.slice a1 n c,.slice a2 m c'],.agg #[.bool sg,.slice b1 k1 c1,.bool nA,.slice b2 k2 c2]] w fun e w' => Kept w w'/\e = .returned (.tuple #[.int .i64 (findT (okM s.data.toList k gs vs) (refU sg nA an ad) (cntA (M.int sg an) (M.val ad) vs)).1,.int .i64 (findT (okM s.data.toList k gs vs) (refU sg nA an ad) (cntA (M.int sg an) (M.val ad) vs)).2]):=by
 have HS:=hid' (And.intro h1 (And.intro h2 (And.intro ha (And.intro had (And.intro hla hld)))))
 have HL0:=hid' (show m = vs.length/\n = gs.length from ⟨h2.len,h1.len⟩)
 clear h1 h2 ha had hla hld
 obtain ⟨ok,hok⟩:∃ ok,ok = okM s.data.toList k gs vs:=⟨_,rfl⟩
 rw [<- hok]
 have HOE:=hid' hok
 obtain ⟨ru,hru⟩:∃ ru,ru = refU sg nA an ad:=⟨_,rfl⟩
 rw [<- hru]
 have HRU:=hid' hru
 clear hok hru
 have HFF:=hid' (rvalidM_any s k a1 a2 n c m c' gs vs)
 have HFU:=hid' (F.Fault_any sg nA b1 b2 k1 c1 k2 c2 an ad)
 obtain ⟨cn,hcn⟩:∃ cn,cn = cntA (M.int sg an) (M.val ad) vs:=⟨_,rfl⟩
 rw [<- hcn]
 have HCN:=hid' hcn
 clear hcn
 obtain ⟨o1,ho1⟩:∃ o,o = (findT ok ru cn).1:=⟨_,rfl⟩
 obtain ⟨o2,ho2⟩:∃ o,o = (findT ok ru cn).2:=⟨_,rfl⟩
 rw [<- ho1,<- ho2]
 have HO:=hid' (And.intro ho1 ho2)
 clear ho1 ho2
 go_enter Tryz.func14,Tryz.ntmps14
 go_upto_region 1 with fail
 have hM:=(Row4.alloc 24 w (.string s) (.int .u8 k) (.slice a1 n c) (.slice a2 m c')).kept ((Kept.refl (w.alloc (.cells #[.string s,.int .u8 k,.slice a1 n c,.slice a2 m c'] 24))).alloc (.cells #[.bool sg,.slice b1 k1 c1,.bool nA,.slice b2 k2 c2] 29))
 have hU:=F.RRow.alloc (w.alloc (.cells #[.string s,.int .u8 k,.slice a1 n c,.slice a2 m c'] 24)) (.bool sg) (.slice b1 k1 c1) (.bool nA) (.slice b2 k2 c2)
 have hK:=(((Kept.refl w).alloc (.cells #[.string s,.int .u8 k,.slice a1 n c,.slice a2 m c'] 24)).alloc (.cells #[.bool sg,.slice b1 k1 c1,.bool nA,.slice b2 k2 c2] 29))
 simp only [World.size_alloc] at hU
 generalize (w.alloc (.cells #[.string s,.int .u8 k,.slice a1 n c,.slice a2 m c'] 24)).alloc (.cells #[.bool sg,.slice b1 k1 c1,.bool nA,.slice b2 k2 c2] 29) = W at hM hU hK ⊢
 obtain ⟨q,hqq⟩:∃ q,q = w.heap.size + 1:=⟨_,rfl⟩
 rw [<- hqq] at hU ⊢
 obtain ⟨p,hqp⟩:∃ q,q = w.heap.size:=⟨_,rfl⟩
 rw [<- hqp] at hM ⊢
 clear hqp hqq
 have HK:=hid' (And.intro hK (And.intro hM hU))
 clear hK hM hU
 have q0:=HK.out.2.1.c0
 have q1:=HK.out.2.1.c1
 have q2:=HK.out.2.1.c2
 have q3:=HK.out.2.1.c3
 go_wp2_with fail
 refine (HFF.out _ hs (HS.out.1.kept HK.out.1) (HS.out.2.1.kept HK.out.1) hn hm).mono ?_
 rintro e w2 ⟨hk2,rfl⟩
 have HK:=hid' (And.intro (HK.out.1.trans hk2) (And.intro (HK.out.2.1.kept hk2) (HK.out.2.2.kept hk2)))
 clear hk2 q0 q1 q2 q3 HFF
 rw [<- HOE.out]
 cases ok
 ·
  go_wp2_with fail
  go_ret2
  exact ⟨HK.out.1,by rw [HO.out.1,HO.out.2]; rfl⟩
 have HRF:=hid' HOE.out.symm
 have q0:=HK.out.2.2.c0
 have q1:=HK.out.2.2.c1
 have q2:=HK.out.2.2.c2
 have q3:=HK.out.2.2.c3
 go_wp2_with fail
 refine (HFU.out _ (HS.out.2.2.1.kept HK.out.1) (HS.out.2.2.2.1.kept HK.out.1) HS.out.2.2.2.2.1 HS.out.2.2.2.2.2).mono ?_
 rintro e w3 ⟨hk3,cc,rfl,hcc⟩
 obtain ⟨h1,h2⟩:=fault_is hcc
 have HCC:=hid' (And.intro (h1.trans HRU.out.symm) h2)
 have HK:=hid' (And.intro (HK.out.1.trans hk3) (And.intro (HK.out.2.1.kept hk3) (HK.out.2.2.kept hk3)))
 clear hk3 q0 q1 q2 q3 HFU hcc h1 h2
 by_cases hc0:cc = 0
 ·
  have HR:=hid' (HCC.out.2 hc0)
  have HRN:=hid' (show ru = 0 by rw [<- HCC.out.1]; exact hc0)
  subst hc0
  have HOA:=hid' (okM_all HRF.out)
  have HL:=hid' (show m = vs.length/\n = gs.length/\n = m + 1/\n<=4 by
   have e0:=HL0.out
   have e3:=fits_len HOA.out.2.2.2
   exact ⟨e0.1,e0.2,by omega,by omega⟩)
  have HV:=hid' (okM_at HRF.out).2
  have HV:=hid' (fun j (hj:j < m) => HV.out j (by have:=HL.out; omega))
  have HCM:=hid' (show cn<=m by
   have e:=(cntA_spec (M.int sg an) (M.val ad) vs).1
   rw [<- HCN.out] at e
   have:=HL.out
   omega)
  have HSW:=hid' (fun (j:Nat) (hj:j<=m) => side_walk (N:=M.int sg an) (D:=M.val ad) (vs:=vs) HR.out.vpos HOA.out.2.2.1 (k:=j) (by have:=HL.out; omega))
  rw [<- HCN.out] at HSW
  go_wp2_with fail
  go_loopw [7] (fun vi wr => ∃ j:Nat,j<=cn/\vi = .int .i64 (j:Int)/\Hid (Kept w3 wr)) (fun vi _ => cn - (intOf vi).toNat)
  case atStart => exact ⟨0,Nat.zero_le _,rfl,Kept.refl _⟩
  case round =>
   obtain ⟨j,hj,rfl,H⟩:=hrel
   have hj2:j<=3:=by have:=HCM.out; have:=HL.out; omega
   have HJ:=hid' (show j<=m by have:=HCM.out; omega)
   have HK:=hid' (And.intro (HK.out.1.trans H.out) (And.intro (HK.out.2.1.kept H.out) (HK.out.2.2.kept H.out)))
   go_upto_region 7 with fail
   have KR:Kept wr wr.drew:=(Kept.refl _).drew
   have sS:=hid' (fun (V:World) (K:Kept wr V) => (show V.cell? ⟨p,0,none⟩ = some (.string s)/\V.cell? ⟨p,1,none⟩ = some (.int .u8 k)/\V.cell? ⟨p,2,none⟩ = some (.slice a1 n c)/\V.cell? ⟨p,3,none⟩ = some (.slice a2 m c')/\V.cell? ⟨q,0,none⟩ = some (.bool sg)/\V.cell? ⟨q,1,none⟩ = some (.slice b1 k1 c1)/\V.cell? ⟨q,2,none⟩ = some (.bool nA)/\V.cell? ⟨q,3,none⟩ = some (.slice b2 k2 c2) from by
    have r1:=HK.out.2.1.kept K
    have r2:=HK.out.2.2.kept K
    exact ⟨r1.c0,r1.c1,r1.c2,r1.c3,r2.c0,r2.c1,r2.c2,r2.c3⟩))
   refine wp_region_held_drew (S:=fun w' => w'.cell? ⟨p,0,none⟩ = some (.string s)/\w'.cell? ⟨p,1,none⟩ = some (.int .u8 k)/\w'.cell? ⟨p,2,none⟩ = some (.slice a1 n c)/\w'.cell? ⟨p,3,none⟩ = some (.slice a2 m c')/\w'.cell? ⟨q,0,none⟩ = some (.bool sg)/\w'.cell? ⟨q,1,none⟩ = some (.slice b1 k1 c1)/\w'.cell? ⟨q,2,none⟩ = some (.bool nA)/\w'.cell? ⟨q,3,none⟩ = some (.slice b2 k2 c2)) (by kernel_rfl) (sS.out _ KR) (fun hHeld => ?_)
   generalize wr.drew = Wd at KR hHeld ⊢
   refine tk 0 hHeld ?_
   refine tk 1 hHeld ?_
   refine tk 2 hHeld ?_
   refine rdy 3 fun K hK => ?_
   go_simp
   refine (F.FTake_any sg nA b1 b2 k1 c1 k2 c2 an ad _ (HS.out.2.2.1.kept (HK.out.1.trans KR)) (HS.out.2.2.2.1.kept (HK.out.1.trans KR)) (by have:=HR.out.ra.1; omega) (by have:=HR.out.rd.1; omega)).mono ?_
   rintro e wt ⟨hkt,ut,rfl,ft⟩
   have fx:=fx_of ft HR.out
   obtain ⟨y0,y1,y2,y3,y4,y5,y6,y7,rfl⟩:=fx.shape
   have KR:=KR.trans hkt
   refine hK.out _ _ (sS.out _ KR) (fun hHeld => ?_)
   clear hK K hkt ft
   refine rdy 4 fun K hK => ?_
   go_simp
   refine (liesR_any s k a1 a2 n c m c' gs vs j _ _ y0 y1 y2 y3 y4 y5 y6 y7 _ (HS.out.1.kept (HK.out.1.trans KR)) (HS.out.2.1.kept (HK.out.1.trans KR)) hn hm HL.out.2.2.1 (by have:=HJ.out; have:=HL.out; omega) (fun j hj => HV.out j (by have:=HL.out; omega)) fx).mono ?_
   rintro e wl ⟨hkl,rfl⟩
   have KR:=KR.trans hkl
   obtain ⟨sj,hsj⟩:∃ sj,sj = sideS (M.int sg an) (M.val ad) vs j:=⟨_,rfl⟩
   rw [<- hsj]
   have HSJ:=hid' (HSW.out j HJ.out)
   rw [<- hsj] at HSJ
   refine hK.out _ _ (sS.out _ KR) (fun hHeld => ?_)
   have HK2:=hid' (And.intro (HK.out.1.trans KR) (H.out.trans KR))
   clear hK K hkl fx hsj
   rcases HSJ.out with ⟨rfl,hh⟩ | ⟨rfl,hh⟩ | ⟨_,hh⟩
   ·
    have HH:=hid' hh
    clear hh
    refine tk 5 hHeld ?_
    refine dn ?_
    clear hHeld sS KR
    go_wp2_with fail
    go_ret2
    exact ⟨HK2.out.1,by rw [HO.out.1,HO.out.2,HRN.out]; unfold findT; rw [if_pos rfl,if_pos rfl,show cn = j by have:=HH.out; omega]; rfl⟩
   ·
    have HH:=hid' hh
    refine tk 5 hHeld ?_
    refine dn ?_
    clear hHeld sS KR
    go_wp2_with fail
    go_roundw
    case rel => exact ⟨j + 1,by omega,by go_num,HK2.out.2⟩
    case measure => show cn - ((j:Int) + 1).toNat < cn - (j:Int).toNat; omega
   ·
    exact absurd hh (by omega)
 ·
  have hc1:(cc != 0) = true:=by simpa using hc0
  have HC0:=hid' hc0
  go_wp2_with fail
  go_ret2
  exact ⟨HK.out.1,by rw [HO.out.1,HO.out.2,<- HCC.out.1]; unfold findT; rw [if_pos rfl,if_neg HC0.out]; rfl⟩
open Q (hid' Row3 Row2 okN okN_bd Scl RQ)
theorem ft_zero {w:World} {v:Value} (h:FT w v 0 1):FT w v 0 (10 ^ 18 * 10 ^ 18):=by
 have:=h.scale (10 ^ 18 * 10 ^ 18)
 rwa [Int.zero_mul,Nat.one_mul] at this
theorem ownK_zero (k:Int) (gs vs:List (Int × Int)):ownK k gs vs 0 = 0:=by unfold ownK; split <;> rfl
theorem line_step {g g' v C o:Int} (i:Nat) (hg:g.natAbs<=10 ^ 36) (hg':g'.natAbs<=10 ^ 36) (hv:v.natAbs<=10 ^ 36) (hC:C.natAbs<=i * 10 ^ 82) (hi:i<=4) (ho:C * 10 ^ 18 = o) :
  (g * (v * 1000000000)).natAbs<=10 ^ 100/\(g * (v * 1000000000) + C).natAbs<=10 ^ 100/\(g' * (v * 1000000000)).natAbs<=10 ^ 100/\(g * (v * 1000000000) + C - g' * (v * 1000000000)).natAbs<=10 ^ 100/\(g * (v * 1000000000) + C - g' * (v * 1000000000)) * 10 ^ 18 = o + (g - g') * (v * 10 ^ 27)/\(g * (v * 1000000000) + C - g' * (v * 1000000000)).natAbs<=(i + 1) * 10 ^ 82:=by
 have b1:(g * (v * 1000000000)).natAbs<=10 ^ 81:=by
  rw [Int.natAbs_mul,Int.natAbs_mul]
  exact Nat.le_trans (Nat.mul_le_mul hg (Nat.mul_le_mul hv (Nat.le_refl _))) (by decide)
 have b2:(g' * (v * 1000000000)).natAbs<=10 ^ 81:=by
  rw [Int.natAbs_mul,Int.natAbs_mul]
  exact Nat.le_trans (Nat.mul_le_mul hg' (Nat.mul_le_mul hv (Nat.le_refl _))) (by decide)
 have e:(g * (v * 1000000000) + C - g' * (v * 1000000000)) * 10 ^ 18 = o + (g - g') * (v * 10 ^ 27):=by
  have e1:∀ x:Int,x * (v * 1000000000) * 10 ^ 18 = x * (v * 10 ^ 27):=fun x => by rw [Int.mul_assoc,Int.mul_assoc]; rfl
  rw [Int.sub_mul,Int.add_mul,e1,e1,ho,Int.sub_mul]
  omega
 have hC4:C.natAbs<=4 * 10 ^ 82:=Nat.le_trans hC (Nat.mul_le_mul_right _ hi)
 generalize g * (v * 1000000000) = A at *
 generalize g' * (v * 1000000000) = B at *
 have p1:(10:Nat) ^ 81 = 1000000000000000000000000000000000000000000000000000000000000000000000000000000000:=by decide
 have p2:(10:Nat) ^ 82 = 10000000000000000000000000000000000000000000000000000000000000000000000000000000000:=by decide
 have p3:10000000000000000000000000000000000000000000000000000000000000000000000000000000000 * 10<=(10:Nat) ^ 100:=by decide
 rw [p1] at b1 b2
 rw [p2] at hC hC4 ⊢
 refine ⟨by omega,by omega,by omega,by omega,e,?_⟩
 rw [Nat.add_mul]
 omega
set_option maxRecDepth 100000 in
set_option maxHeartbeats 8000000 in
theorem lineR_any (s:ByteArray) (k:Int) (a1 a2:Option Addr) (n c m c':Nat) (gs vs:List (Int × Int)) (hn:n<=4611686018427387903) (hnm:n = m + 1/\n<=4) (hg:∀ i,i < n->okN (gs.getD i (0,0)).1 (gs.getD i (0,0)).2 = true) (hv:∀ i,i < m->okN (vs.getD i (0,0)).1 (vs.getD i (0,0)).2 = true):∀ (i:Nat) (w:World),i < n->NSl w (.slice a1 n c) gs->NSl w (.slice a2 m c') vs ->
  Calls Tryz.prog 33 #[.agg #[.string s,.int .u8 k,.slice a1 n c,.slice a2 m c'],.int .i64 (i:Int)] w fun e w' => Kept w w'/\∃ u v C,e = .returned (.tuple #[u,v])/\FT w' u (U (gs.getD i (0,0)).1 (gs.getD i (0,0)).2) (10 ^ 18)/\FT w' v C (10 ^ 18 * 10 ^ 18)/\C * 10 ^ 18 = ownK k gs vs i/\C.natAbs<=i * 10 ^ 82:=by
 obtain ⟨hn0,hn1⟩:=hnm
 have hn2:m < n:=by omega
 have hn3:n<=m + 1:=by omega
 clear hn0
 intro i
 induction i with
 | zero =>
  intro w hi h1 h2
  have HO:=hid' (And.intro hg hv)
  have HS:=hid' (And.intro h1 h2)
  obtain ⟨bg,og,rfl,hbg,hcg⟩:=h1.at (j:=0) hi
  obtain ⟨e0,e1⟩:=hcg (0) hi
  have HC:=hid' (And.intro hbg (And.intro e0 e1))
  clear h1 h2 hg hv hcg e0 e1 hbg
  obtain ⟨x,hX⟩:∃ x,x = gs.getD (0) (0,0):=⟨_,rfl⟩
  have HOG:=hid' (HO.out.1 (0) hi)
  rw [<- hX] at HC HOG ⊢
  have HX:=hid' hX
  clear hX
  obtain ⟨x0,x1⟩:=x
  dsimp only at HC HOG ⊢
  have d00:(0:Int) < (n:Int):=by omega
  have d01:0 < n:=hi
  go_enter Tryz.func33,Tryz.ntmps33
  go_upto_region 1 with fail
  have hM:=(Row4.alloc 24 w (.string s) (.int .u8 k) (.slice (some ⟨bg,og,none⟩) n c) (.slice a2 m c')).kept (((Kept.refl (w.alloc (.cells #[.string s,.int .u8 k,.slice (some ⟨bg,og,none⟩) n c,.slice a2 m c'] 24))).alloc (.cells #[.bool false,.slice none 0 0,.bool false,.slice none 0 0] 73)).alloc (.cells #[.bool false,.slice none 0 0,.bool false,.slice none 0 0] 73))
  have hZ1:=(F.FRow.alloc (w.alloc (.cells #[.string s,.int .u8 k,.slice (some ⟨bg,og,none⟩) n c,.slice a2 m c'] 24)) (.bool false) (.slice none 0 0) (.bool false) (.slice none 0 0)).kept ((Kept.refl ((w.alloc (.cells #[.string s,.int .u8 k,.slice (some ⟨bg,og,none⟩) n c,.slice a2 m c'] 24)).alloc (.cells #[.bool false,.slice none 0 0,.bool false,.slice none 0 0] 73))).alloc (.cells #[.bool false,.slice none 0 0,.bool false,.slice none 0 0] 73))
  have hZ2:=F.FRow.alloc ((w.alloc (.cells #[.string s,.int .u8 k,.slice (some ⟨bg,og,none⟩) n c,.slice a2 m c'] 24)).alloc (.cells #[.bool false,.slice none 0 0,.bool false,.slice none 0 0] 73)) (.bool false) (.slice none 0 0) (.bool false) (.slice none 0 0)
  have hK:=((((Kept.refl w).alloc (.cells #[.string s,.int .u8 k,.slice (some ⟨bg,og,none⟩) n c,.slice a2 m c'] 24)).alloc (.cells #[.bool false,.slice none 0 0,.bool false,.slice none 0 0] 73)).alloc (.cells #[.bool false,.slice none 0 0,.bool false,.slice none 0 0] 73))
  simp only [World.size_alloc] at hZ1
  simp only [World.size_alloc] at hZ2
  generalize ((w.alloc (.cells #[.string s,.int .u8 k,.slice (some ⟨bg,og,none⟩) n c,.slice a2 m c'] 24)).alloc (.cells #[.bool false,.slice none 0 0,.bool false,.slice none 0 0] 73)).alloc (.cells #[.bool false,.slice none 0 0,.bool false,.slice none 0 0] 73) = W at hM hZ1 hZ2 hK ⊢
  obtain ⟨z2,hqz2⟩:∃ q,q = w.heap.size + 1 + 1:=⟨_,rfl⟩
  rw [<- hqz2] at hZ2 ⊢
  obtain ⟨z1,hqz1⟩:∃ q,q = w.heap.size + 1:=⟨_,rfl⟩
  rw [<- hqz1] at hZ1 ⊢
  obtain ⟨p,hqp⟩:∃ q,q = w.heap.size:=⟨_,rfl⟩
  rw [<- hqp] at hM ⊢
  have HPz1:=hid' (show w.heap.size<=z1 by omega)
  have HPz2:=hid' (show w.heap.size<=z2 by omega)
  have HZZ:=hid' (show z1 ≠ z2/\z2 ≠ z1 by omega)
  have HK:=hid' (And.intro hK (And.intro hM (And.intro hZ1 hZ2)))
  have q2:=hM.c2
  have d0:=(Below.cell hK (p:=⟨bg,og,none⟩) HC.out.1).trans HC.out.2.1
  have d1:=(Below.cell hK (p:=⟨bg,og + 1,none⟩) HC.out.1).trans HC.out.2.2
  clear hqp hqz1 hqz2 hM hZ1 hZ2 hK
  go_wp2_with fail
  refine (ft_num _ x0 x1 HOG.out).mono ?_
  rintro e w1 ⟨hk1,ug,rfl,tg⟩
  obtain ⟨g0,g1,g2,g3,g4,g5,g6,g7,rfl⟩:=tg.shape
  have HK:=hid' (And.intro (HK.out.1.trans hk1) (And.intro (HK.out.2.1.kept hk1) (And.intro (HK.out.2.2.1.kept hk1) (HK.out.2.2.2.kept hk1))))
  clear hk1 q2 d0 d1
  go_upto_region 2 with fail
  have hG1:=F.FRow.alloc w1 (.bool g0) (.slice g1 g2 g3) (.bool g4) (.slice g5 g6 g7)
  have kA:=((Kept.refl w1).alloc (.cells #[.bool g0,.slice g1 g2 g3,.bool g4,.slice g5 g6 g7] 73))
  generalize w1.alloc (.cells #[.bool g0,.slice g1 g2 g3,.bool g4,.slice g5 g6 g7] 73) = W1 at hG1 kA ⊢
  obtain ⟨pg,hqpg⟩:∃ q,q = w1.heap.size:=⟨_,rfl⟩
  rw [<- hqpg] at hG1 ⊢
  have HNE:=hid' (show pg ≠ z1/\z2 ≠ z1/\pg ≠ z2/\z1 ≠ z2 by
   have a:=HK.out.2.2.1.lt
   have b:=HK.out.2.2.2.lt
   have:=HZZ.out
   omega)
  have HG:=hid' (And.intro hG1 (tg.kept kA))
  have HK:=hid' (And.intro (HK.out.1.trans kA) (And.intro (HK.out.2.1.kept kA) (And.intro (HK.out.2.2.1.kept kA) (HK.out.2.2.2.kept kA))))
  clear hqpg hG1 kA tg
  go_upto_region 3 with fail
  have KR:Kept W1 W1.drew:=(Kept.refl _).drew
  have KK:=HK.out.1.trans KR
  have gr:=HG.out.1.kept KR
  have z1r:=HK.out.2.2.1.kept KR
  have z2r:=HK.out.2.2.2.kept KR
  have tg:=HG.out.2.kept KR
  have sS:=hid' (fun (V:World) (r:F.FRow V pg (.bool g0) (.slice g1 g2 g3) (.bool g4) (.slice g5 g6 g7)) => (show V.cell? ⟨pg,0,none⟩ = some (.bool g0)/\V.cell? ⟨pg,1,none⟩ = some (.slice g1 g2 g3)/\V.cell? ⟨pg,2,none⟩ = some (.bool g4)/\V.cell? ⟨pg,3,none⟩ = some (.slice g5 g6 g7) from ⟨r.c0,r.c1,r.c2,r.c3⟩))
  refine wp_region_held_drew (S:=fun w' => w'.cell? ⟨pg,0,none⟩ = some (.bool g0)/\w'.cell? ⟨pg,1,none⟩ = some (.slice g1 g2 g3)/\w'.cell? ⟨pg,2,none⟩ = some (.bool g4)/\w'.cell? ⟨pg,3,none⟩ = some (.slice g5 g6 g7)) (by kernel_rfl) (sS.out _ gr) (fun hHeld => ?_)
  generalize W1.drew = Wd at KK gr z1r z2r tg hHeld ⊢
  clear KR
  refine tk 0 hHeld ?_
  refine rdy 1 fun K hK => ?_
  go_simp
  refine (ft_int _ 0 (by decide)).mono ?_
  rintro e w5 ⟨hk5,uy,rfl,ty⟩
  obtain ⟨y0,y1,y2,y3,y4,y5,y6,y7,rfl⟩:=ty.shape
  have KK:=KK.trans hk5
  have gr:=gr.kept hk5
  have z1r:=z1r.kept hk5
  have z2r:=z2r.kept hk5
  have tg:=tg.kept hk5
  refine hK.out _ _ (sS.out _ gr) (fun hHeld => ?_)
  clear hK K hk5
  have f0:=z1r.c0
  have f1:=z1r.c1
  have f2:=z1r.c2
  have f3:=z1r.c3
  have fz:=z1r.fz
  refine rdy 2 fun K hK => ?_
  go_simp
  have z1s:=frow_put4 z1r (.bool g0) (.slice g1 g2 g3) (.bool g4) (.slice g5 g6 g7)
  have gr:=frow_far gr HNE.out.1 (.bool g0) (.slice g1 g2 g3) (.bool g4) (.slice g5 g6 g7)
  have z2r:=frow_far z2r HNE.out.2.1 (.bool g0) (.slice g1 g2 g3) (.bool g4) (.slice g5 g6 g7)
  have tg:=FT.put4 tg z1r (.bool g0) (.slice g1 g2 g3) (.bool g4) (.slice g5 g6 g7)
  have ty:=FT.put4 ty z1r (.bool g0) (.slice g1 g2 g3) (.bool g4) (.slice g5 g6 g7)
  have KK:=kept_set4 KK HPz1.out (.bool g0) (.slice g1 g2 g3) (.bool g4) (.slice g5 g6 g7)
  unfold F.put4 at z1s gr z2r tg ty
  refine hK.out _ _ (sS.out _ gr) (fun hHeld => ?_)
  clear hK K f0 f1 f2 f3 fz z1r
  generalize (((w5.setCell ⟨z1,0,none⟩ (.bool g0)).setCell ⟨z1,1,none⟩ (.slice g1 g2 g3)).setCell ⟨z1,2,none⟩ (.bool g4)).setCell ⟨z1,3,none⟩ (.slice g5 g6 g7) = w6 at z1s gr z2r tg ty KK hHeld ⊢
  have f0:=z2r.c0
  have f1:=z2r.c1
  have f2:=z2r.c2
  have f3:=z2r.c3
  have fz:=z2r.fz
  refine rdy 3 fun K hK => ?_
  go_simp
  have z2s:=frow_put4 z2r (.bool y0) (.slice y1 y2 y3) (.bool y4) (.slice y5 y6 y7)
  have gr:=frow_far gr HNE.out.2.2.1 (.bool y0) (.slice y1 y2 y3) (.bool y4) (.slice y5 y6 y7)
  have z1s:=frow_far z1s HNE.out.2.2.2 (.bool y0) (.slice y1 y2 y3) (.bool y4) (.slice y5 y6 y7)
  have tg:=FT.put4 tg z2r (.bool y0) (.slice y1 y2 y3) (.bool y4) (.slice y5 y6 y7)
  have ty:=FT.put4 ty z2r (.bool y0) (.slice y1 y2 y3) (.bool y4) (.slice y5 y6 y7)
  have KK:=kept_set4 KK HPz2.out (.bool y0) (.slice y1 y2 y3) (.bool y4) (.slice y5 y6 y7)
  unfold F.put4 at z2s gr z1s tg ty
  refine hK.out _ _ (sS.out _ gr) (fun hHeld => ?_)
  clear hK K f0 f1 f2 f3 fz z2r
  generalize (((w6.setCell ⟨z2,0,none⟩ (.bool y0)).setCell ⟨z2,1,none⟩ (.slice y1 y2 y3)).setCell ⟨z2,2,none⟩ (.bool y4)).setCell ⟨z2,3,none⟩ (.slice y5 y6 y7) = w7 at z2s gr z1s tg ty KK hHeld ⊢
  refine dn ?_
  have f0:=z1s.c0
  have f1:=z1s.c1
  have f2:=z1s.c2
  have f3:=z1s.c3
  have h0:=z2s.c0
  have h1:=z2s.c1
  have h2:=z2s.c2
  have h3:=z2s.c3
  clear gr sS hHeld
  go_wp2_with fail
  exact bodyPost_ret (v:=.tuple #[(.agg #[.bool g0,.slice g1 g2 g3,.bool g4,.slice g5 g6 g7]),(.agg #[.bool y0,.slice y1 y2 y3,.bool y4,.slice y5 y6 y7])]) (by simp [results,Tryz.results33,go_sem,f0,f1,f2,f3,h0,h1,h2,h3]) rfl ⟨KK,_,_,0,rfl,tg,ft_zero ty,by rw [ownK_zero]; rfl,by omega⟩
 | succ j ih =>
  intro w hi h1 h2
  have HO:=hid' (And.intro hg hv)
  have HS:=hid' (And.intro h1 h2)
  obtain ⟨bg,og,rfl,hbg,hcg⟩:=h1.at (j:=j + 1) hi
  obtain ⟨e0,e1⟩:=hcg (j + 1) hi
  have HC:=hid' (And.intro hbg (And.intro e0 e1))
  clear h1 h2 hg hv hcg e0 e1 hbg
  obtain ⟨x,hX⟩:∃ x,x = gs.getD (j + 1) (0,0):=⟨_,rfl⟩
  have HOG:=hid' (HO.out.1 (j + 1) hi)
  rw [<- hX] at HC HOG ⊢
  have HX:=hid' hX
  clear hX
  obtain ⟨x0,x1⟩:=x
  dsimp only at HC HOG ⊢
  have ec:((j + 1:Nat):Int) = (j:Int) + 1:=by omega
  rw [ec]
  have z3:(j:Int) + 1 < (n:Int):=by omega
  have z4:(0:Int)<=(j:Int) + 1:=by omega
  have z5:((j:Int) + 1).toNat = j + 1:=by omega
  have z6:((j:Int) + 1 == 0) = false:=by simp; omega
  have z7:(j:Int) + 1 - 1 = (j:Int):=by omega
  have z8:IntKind.i64.wrap (j:Int) = (j:Int):=by rw [IntKind.wrap_i64]; omega
  clear ec
  go_enter Tryz.func33,Tryz.ntmps33
  go_upto_region 1 with fail
  have hM:=(Row4.alloc 24 w (.string s) (.int .u8 k) (.slice (some ⟨bg,og,none⟩) n c) (.slice a2 m c')).kept (((Kept.refl (w.alloc (.cells #[.string s,.int .u8 k,.slice (some ⟨bg,og,none⟩) n c,.slice a2 m c'] 24))).alloc (.cells #[.bool false,.slice none 0 0,.bool false,.slice none 0 0] 73)).alloc (.cells #[.bool false,.slice none 0 0,.bool false,.slice none 0 0] 73))
  have hZ1:=(F.FRow.alloc (w.alloc (.cells #[.string s,.int .u8 k,.slice (some ⟨bg,og,none⟩) n c,.slice a2 m c'] 24)) (.bool false) (.slice none 0 0) (.bool false) (.slice none 0 0)).kept ((Kept.refl ((w.alloc (.cells #[.string s,.int .u8 k,.slice (some ⟨bg,og,none⟩) n c,.slice a2 m c'] 24)).alloc (.cells #[.bool false,.slice none 0 0,.bool false,.slice none 0 0] 73))).alloc (.cells #[.bool false,.slice none 0 0,.bool false,.slice none 0 0] 73))
  have hZ2:=F.FRow.alloc ((w.alloc (.cells #[.string s,.int .u8 k,.slice (some ⟨bg,og,none⟩) n c,.slice a2 m c'] 24)).alloc (.cells #[.bool false,.slice none 0 0,.bool false,.slice none 0 0] 73)) (.bool false) (.slice none 0 0) (.bool false) (.slice none 0 0)
  have hK:=((((Kept.refl w).alloc (.cells #[.string s,.int .u8 k,.slice (some ⟨bg,og,none⟩) n c,.slice a2 m c'] 24)).alloc (.cells #[.bool false,.slice none 0 0,.bool false,.slice none 0 0] 73)).alloc (.cells #[.bool false,.slice none 0 0,.bool false,.slice none 0 0] 73))
  simp only [World.size_alloc] at hZ1
  simp only [World.size_alloc] at hZ2
  generalize ((w.alloc (.cells #[.string s,.int .u8 k,.slice (some ⟨bg,og,none⟩) n c,.slice a2 m c'] 24)).alloc (.cells #[.bool false,.slice none 0 0,.bool false,.slice none 0 0] 73)).alloc (.cells #[.bool false,.slice none 0 0,.bool false,.slice none 0 0] 73) = W at hM hZ1 hZ2 hK ⊢
  obtain ⟨z2,hqz2⟩:∃ q,q = w.heap.size + 1 + 1:=⟨_,rfl⟩
  rw [<- hqz2] at hZ2 ⊢
  obtain ⟨z1,hqz1⟩:∃ q,q = w.heap.size + 1:=⟨_,rfl⟩
  rw [<- hqz1] at hZ1 ⊢
  obtain ⟨p,hqp⟩:∃ q,q = w.heap.size:=⟨_,rfl⟩
  rw [<- hqp] at hM ⊢
  have HPz1:=hid' (show w.heap.size<=z1 by omega)
  have HPz2:=hid' (show w.heap.size<=z2 by omega)
  have HZZ:=hid' (show z1 ≠ z2/\z2 ≠ z1 by omega)
  have HK:=hid' (And.intro hK (And.intro hM (And.intro hZ1 hZ2)))
  have q2:=hM.c2
  have d0:=(Below.cell hK (p:=⟨bg,og + (j + 1) * 2,none⟩) HC.out.1).trans HC.out.2.1
  have d1:=(Below.cell hK (p:=⟨bg,og + (j + 1) * 2 + 1,none⟩) HC.out.1).trans HC.out.2.2
  clear hqp hqz1 hqz2 hM hZ1 hZ2 hK
  go_wp2_with fail
  refine (ft_num _ x0 x1 HOG.out).mono ?_
  rintro e w1 ⟨hk1,ug,rfl,tg⟩
  obtain ⟨g0,g1,g2,g3,g4,g5,g6,g7,rfl⟩:=tg.shape
  have HK:=hid' (And.intro (HK.out.1.trans hk1) (And.intro (HK.out.2.1.kept hk1) (And.intro (HK.out.2.2.1.kept hk1) (HK.out.2.2.2.kept hk1))))
  clear hk1 q2 d0 d1
  go_upto_region 2 with fail
  have hG1:=F.FRow.alloc w1 (.bool g0) (.slice g1 g2 g3) (.bool g4) (.slice g5 g6 g7)
  have kA:=((Kept.refl w1).alloc (.cells #[.bool g0,.slice g1 g2 g3,.bool g4,.slice g5 g6 g7] 73))
  generalize w1.alloc (.cells #[.bool g0,.slice g1 g2 g3,.bool g4,.slice g5 g6 g7] 73) = W1 at hG1 kA ⊢
  obtain ⟨pg,hqpg⟩:∃ q,q = w1.heap.size:=⟨_,rfl⟩
  rw [<- hqpg] at hG1 ⊢
  have HNE:=hid' (show pg ≠ z1/\z2 ≠ z1/\pg ≠ z2/\z1 ≠ z2 by
   have a:=HK.out.2.2.1.lt
   have b:=HK.out.2.2.2.lt
   have:=HZZ.out
   omega)
  have HG:=hid' (And.intro hG1 (tg.kept kA))
  have HK:=hid' (And.intro (HK.out.1.trans kA) (And.intro (HK.out.2.1.kept kA) (And.intro (HK.out.2.2.1.kept kA) (HK.out.2.2.2.kept kA))))
  clear hqpg hG1 kA tg
  have q1:=HK.out.2.1.c1
  by_cases hkd:k = 115
  ·
   have HKD:=hid' hkd
   have hkb:(k == 115) = true:=by simpa using hkd
   go_upto_region 3 with fail
   have KR:Kept W1 W1.drew:=(Kept.refl _).drew
   have KK:=HK.out.1.trans KR
   have gr:=HG.out.1.kept KR
   have z1r:=HK.out.2.2.1.kept KR
   have z2r:=HK.out.2.2.2.kept KR
   have tg:=HG.out.2.kept KR
   have sS:=hid' (fun (V:World) (r:F.FRow V pg (.bool g0) (.slice g1 g2 g3) (.bool g4) (.slice g5 g6 g7)) => (show V.cell? ⟨pg,0,none⟩ = some (.bool g0)/\V.cell? ⟨pg,1,none⟩ = some (.slice g1 g2 g3)/\V.cell? ⟨pg,2,none⟩ = some (.bool g4)/\V.cell? ⟨pg,3,none⟩ = some (.slice g5 g6 g7) from ⟨r.c0,r.c1,r.c2,r.c3⟩))
   refine wp_region_held_drew (S:=fun w' => w'.cell? ⟨pg,0,none⟩ = some (.bool g0)/\w'.cell? ⟨pg,1,none⟩ = some (.slice g1 g2 g3)/\w'.cell? ⟨pg,2,none⟩ = some (.bool g4)/\w'.cell? ⟨pg,3,none⟩ = some (.slice g5 g6 g7)) (by kernel_rfl) (sS.out _ gr) (fun hHeld => ?_)
   generalize W1.drew = Wd at KK gr z1r z2r tg hHeld ⊢
   clear KR
   refine tk 0 hHeld ?_
   refine rdy 1 fun K hK => ?_
   go_simp
   refine (ft_int _ 0 (by decide)).mono ?_
   rintro e w5 ⟨hk5,uy,rfl,ty⟩
   obtain ⟨y0,y1,y2,y3,y4,y5,y6,y7,rfl⟩:=ty.shape
   have KK:=KK.trans hk5
   have gr:=gr.kept hk5
   have z1r:=z1r.kept hk5
   have z2r:=z2r.kept hk5
   have tg:=tg.kept hk5
   refine hK.out _ _ (sS.out _ gr) (fun hHeld => ?_)
   clear hK K hk5
   have f0:=z1r.c0
   have f1:=z1r.c1
   have f2:=z1r.c2
   have f3:=z1r.c3
   have fz:=z1r.fz
   refine rdy 2 fun K hK => ?_
   go_simp
   have z1s:=frow_put4 z1r (.bool g0) (.slice g1 g2 g3) (.bool g4) (.slice g5 g6 g7)
   have gr:=frow_far gr HNE.out.1 (.bool g0) (.slice g1 g2 g3) (.bool g4) (.slice g5 g6 g7)
   have z2r:=frow_far z2r HNE.out.2.1 (.bool g0) (.slice g1 g2 g3) (.bool g4) (.slice g5 g6 g7)
   have tg:=FT.put4 tg z1r (.bool g0) (.slice g1 g2 g3) (.bool g4) (.slice g5 g6 g7)
   have ty:=FT.put4 ty z1r (.bool g0) (.slice g1 g2 g3) (.bool g4) (.slice g5 g6 g7)
   have KK:=kept_set4 KK HPz1.out (.bool g0) (.slice g1 g2 g3) (.bool g4) (.slice g5 g6 g7)
   unfold F.put4 at z1s gr z2r tg ty
   refine hK.out _ _ (sS.out _ gr) (fun hHeld => ?_)
   clear hK K f0 f1 f2 f3 fz z1r
   generalize (((w5.setCell ⟨z1,0,none⟩ (.bool g0)).setCell ⟨z1,1,none⟩ (.slice g1 g2 g3)).setCell ⟨z1,2,none⟩ (.bool g4)).setCell ⟨z1,3,none⟩ (.slice g5 g6 g7) = w6 at z1s gr z2r tg ty KK hHeld ⊢
   have f0:=z2r.c0
   have f1:=z2r.c1
   have f2:=z2r.c2
   have f3:=z2r.c3
   have fz:=z2r.fz
   refine rdy 3 fun K hK => ?_
   go_simp
   have z2s:=frow_put4 z2r (.bool y0) (.slice y1 y2 y3) (.bool y4) (.slice y5 y6 y7)
   have gr:=frow_far gr HNE.out.2.2.1 (.bool y0) (.slice y1 y2 y3) (.bool y4) (.slice y5 y6 y7)
   have z1s:=frow_far z1s HNE.out.2.2.2 (.bool y0) (.slice y1 y2 y3) (.bool y4) (.slice y5 y6 y7)
   have tg:=FT.put4 tg z2r (.bool y0) (.slice y1 y2 y3) (.bool y4) (.slice y5 y6 y7)
   have ty:=FT.put4 ty z2r (.bool y0) (.slice y1 y2 y3) (.bool y4) (.slice y5 y6 y7)
   have KK:=kept_set4 KK HPz2.out (.bool y0) (.slice y1 y2 y3) (.bool y4) (.slice y5 y6 y7)
   unfold F.put4 at z2s gr z1s tg ty
   refine hK.out _ _ (sS.out _ gr) (fun hHeld => ?_)
   clear hK K f0 f1 f2 f3 fz z2r
   generalize (((w6.setCell ⟨z2,0,none⟩ (.bool y0)).setCell ⟨z2,1,none⟩ (.slice y1 y2 y3)).setCell ⟨z2,2,none⟩ (.bool y4)).setCell ⟨z2,3,none⟩ (.slice y5 y6 y7) = w7 at z2s gr z1s tg ty KK hHeld ⊢
   refine dn ?_
   have f0:=z1s.c0
   have f1:=z1s.c1
   have f2:=z1s.c2
   have f3:=z1s.c3
   have h0:=z2s.c0
   have h1:=z2s.c1
   have h2:=z2s.c2
   have h3:=z2s.c3
   clear gr sS hHeld
   go_wp2_with fail
   exact bodyPost_ret (v:=.tuple #[(.agg #[.bool g0,.slice g1 g2 g3,.bool g4,.slice g5 g6 g7]),(.agg #[.bool y0,.slice y1 y2 y3,.bool y4,.slice y5 y6 y7])]) (by simp [results,Tryz.results33,go_sem,f0,f1,f2,f3,h0,h1,h2,h3]) rfl ⟨KK,_,_,0,rfl,tg,ft_zero ty,by unfold ownK; rw [if_pos HKD.out]; rfl,by omega⟩
  ·
   have HKD:=hid' hkd
   have hkb:(k == 115) = false:=by simpa using hkd
   have q0:=HK.out.2.1.c0
   have q1:=HK.out.2.1.c1
   have q2:=HK.out.2.1.c2
   have q3:=HK.out.2.1.c3
   go_wp2_with fail
   refine (ih _ (by omega) (HS.out.1.kept HK.out.1) (HS.out.2.kept HK.out.1)).mono ?_
   rintro e w2 ⟨hk2,uh,uc,C,rfl,th,tc,hC,hCb⟩
   obtain ⟨h0,h1,h2,h3,h4,h5,h6,h7,rfl⟩:=th.shape
   obtain ⟨d0,d1,d2,d3,d4,d5,d6,d7,rfl⟩:=tc.shape
   have HG:=hid' (And.intro (HG.out.1.kept hk2) (HG.out.2.kept hk2))
   have HCB:=hid' (And.intro hC hCb)
   have HK:=hid' (And.intro (HK.out.1.trans hk2) (And.intro (HK.out.2.1.kept hk2) (And.intro (HK.out.2.2.1.kept hk2) (HK.out.2.2.2.kept hk2))))
   clear hk2 q0 q1 q2 q3 hC hCb
   go_upto_region 5 with fail
   have hH1:=(F.FRow.alloc w2 (.bool h0) (.slice h1 h2 h3) (.bool h4) (.slice h5 h6 h7)).kept ((Kept.refl (w2.alloc (.cells #[.bool h0,.slice h1 h2 h3,.bool h4,.slice h5 h6 h7] 73))).alloc (.cells #[.bool d0,.slice d1 d2 d3,.bool d4,.slice d5 d6 d7] 73))
   have hC1:=F.FRow.alloc (w2.alloc (.cells #[.bool h0,.slice h1 h2 h3,.bool h4,.slice h5 h6 h7] 73)) (.bool d0) (.slice d1 d2 d3) (.bool d4) (.slice d5 d6 d7)
   have kA:=(((Kept.refl w2).alloc (.cells #[.bool h0,.slice h1 h2 h3,.bool h4,.slice h5 h6 h7] 73)).alloc (.cells #[.bool d0,.slice d1 d2 d3,.bool d4,.slice d5 d6 d7] 73))
   simp only [World.size_alloc] at hC1
   generalize (w2.alloc (.cells #[.bool h0,.slice h1 h2 h3,.bool h4,.slice h5 h6 h7] 73)).alloc (.cells #[.bool d0,.slice d1 d2 d3,.bool d4,.slice d5 d6 d7] 73) = W3 at hH1 hC1 kA ⊢
   obtain ⟨pc,hqpc⟩:∃ q,q = w2.heap.size + 1:=⟨_,rfl⟩
   rw [<- hqpc] at hC1 ⊢
   obtain ⟨ph,hqph⟩:∃ q,q = w2.heap.size:=⟨_,rfl⟩
   rw [<- hqph] at hH1 ⊢
   have HH:=hid' (And.intro hH1 (And.intro hC1 (And.intro (th.kept kA) (tc.kept kA))))
   have HN5:=hid' (show ph ≠ z1/\pc ≠ z1/\ph ≠ z2/\pc ≠ z2 by
    have a:=HK.out.2.2.1.lt
    have b:=HK.out.2.2.2.lt
    omega)
   have HG:=hid' (And.intro (HG.out.1.kept kA) (HG.out.2.kept kA))
   have HK:=hid' (And.intro (HK.out.1.trans kA) (And.intro (HK.out.2.1.kept kA) (And.intro (HK.out.2.2.1.kept kA) (HK.out.2.2.2.kept kA))))
   clear hqph hqpc hH1 hC1 kA th tc
   have q0:=HK.out.2.1.c0
   have q1:=HK.out.2.1.c1
   have q2:=HK.out.2.1.c2
   have q3:=HK.out.2.1.c3
   go_wp2_with fail
   refine (knotR_any s k (some ⟨bg,og,none⟩) a2 n c m c' vs j _ (HS.out.2.kept HK.out.1) (by omega) (HO.out.2 j (by omega))).mono ?_
   rintro e w4 ⟨hk4,ua,rfl,ta⟩
   obtain ⟨b0,b1,b2,b3,b4,b5,b6,b7,rfl⟩:=ta.shape
   have HG:=hid' (And.intro (HG.out.1.kept hk4) (HG.out.2.kept hk4))
   have HH:=hid' (And.intro (HH.out.1.kept hk4) (And.intro (HH.out.2.1.kept hk4) (And.intro (HH.out.2.2.1.kept hk4) (HH.out.2.2.2.kept hk4))))
   have HK:=hid' (And.intro (HK.out.1.trans hk4) (And.intro (HK.out.2.1.kept hk4) (And.intro (HK.out.2.2.1.kept hk4) (HK.out.2.2.2.kept hk4))))
   clear hk4 q0 q1 q2 q3
   go_upto_region 6 with fail
   have hA1:=F.FRow.alloc w4 (.bool b0) (.slice b1 b2 b3) (.bool b4) (.slice b5 b6 b7)
   have kA:=((Kept.refl w4).alloc (.cells #[.bool b0,.slice b1 b2 b3,.bool b4,.slice b5 b6 b7] 73))
   generalize w4.alloc (.cells #[.bool b0,.slice b1 b2 b3,.bool b4,.slice b5 b6 b7] 73) = W5 at hA1 kA ⊢
   obtain ⟨pa,hqpa⟩:∃ q,q = w4.heap.size:=⟨_,rfl⟩
   rw [<- hqpa] at hA1 ⊢
   have HA:=hid' (And.intro hA1 (ta.kept kA))
   have HN6:=hid' (show ph ≠ z1/\pc ≠ z1/\pa ≠ z1/\ph ≠ z2/\pc ≠ z2/\pa ≠ z2 by
    have a:=HK.out.2.2.1.lt
    have b:=HK.out.2.2.2.lt
    have c:=HN5.out
    omega)
   have HG:=hid' (And.intro (HG.out.1.kept kA) (HG.out.2.kept kA))
   have HH:=hid' (And.intro (HH.out.1.kept kA) (And.intro (HH.out.2.1.kept kA) (And.intro (HH.out.2.2.1.kept kA) (HH.out.2.2.2.kept kA))))
   have HK:=hid' (And.intro (HK.out.1.trans kA) (And.intro (HK.out.2.1.kept kA) (And.intro (HK.out.2.2.1.kept kA) (HK.out.2.2.2.kept kA))))
   have HBD:=hid' (line_step (o:=ownK k gs vs j) j (u_abs (HO.out.1 j (by omega))) (u_abs HOG.out) (u_abs (HO.out.2 j (by omega))) HCB.out.2 (by omega) HCB.out.1)
   have HOW:=hid' (show ownK k gs vs (j + 1) = ownK k gs vs j + (U (gs.getD j (0,0)).1 (gs.getD j (0,0)).2 - U x0 x1) * (U (vs.getD j (0,0)).1 (vs.getD j (0,0)).2 * 10 ^ 27) by
    unfold ownK
    rw [if_neg HKD.out,if_neg HKD.out,ownS]
    unfold jmp
    rw [<- HX.out])
   clear hqpa hA1 kA ta
   have KR:Kept W5 W5.drew:=(Kept.refl _).drew
   have KK:=HK.out.1.trans KR
   have gr:=HG.out.1.kept KR
   have hr:=HH.out.1.kept KR
   have cr:=HH.out.2.1.kept KR
   have ar:=HA.out.1.kept KR
   have z1r:=HK.out.2.2.1.kept KR
   have z2r:=HK.out.2.2.2.kept KR
   have tg:=HG.out.2.kept KR
   have th:=HH.out.2.2.1.kept KR
   have tc:=HH.out.2.2.2.kept KR
   have ta:=HA.out.2.kept KR
   have sS:=hid' (fun (V:World) (gr:F.FRow V pg (.bool g0) (.slice g1 g2 g3) (.bool g4) (.slice g5 g6 g7)) (hr:F.FRow V ph (.bool h0) (.slice h1 h2 h3) (.bool h4) (.slice h5 h6 h7)) (cr:F.FRow V pc (.bool d0) (.slice d1 d2 d3) (.bool d4) (.slice d5 d6 d7)) (ar:F.FRow V pa (.bool b0) (.slice b1 b2 b3) (.bool b4) (.slice b5 b6 b7)) => (show V.cell? ⟨pg,0,none⟩ = some (.bool g0)/\V.cell? ⟨pg,1,none⟩ = some (.slice g1 g2 g3)/\V.cell? ⟨pg,2,none⟩ = some (.bool g4)/\V.cell? ⟨pg,3,none⟩ = some (.slice g5 g6 g7)/\V.cell? ⟨ph,0,none⟩ = some (.bool h0)/\V.cell? ⟨ph,1,none⟩ = some (.slice h1 h2 h3)/\V.cell? ⟨ph,2,none⟩ = some (.bool h4)/\V.cell? ⟨ph,3,none⟩ = some (.slice h5 h6 h7)/\V.cell? ⟨pc,0,none⟩ = some (.bool d0)/\V.cell? ⟨pc,1,none⟩ = some (.slice d1 d2 d3)/\V.cell? ⟨pc,2,none⟩ = some (.bool d4)/\V.cell? ⟨pc,3,none⟩ = some (.slice d5 d6 d7)/\V.cell? ⟨pa,0,none⟩ = some (.bool b0)/\V.cell? ⟨pa,1,none⟩ = some (.slice b1 b2 b3)/\V.cell? ⟨pa,2,none⟩ = some (.bool b4)/\V.cell? ⟨pa,3,none⟩ = some (.slice b5 b6 b7) from ⟨gr.c0,gr.c1,gr.c2,gr.c3,hr.c0,hr.c1,hr.c2,hr.c3,cr.c0,cr.c1,cr.c2,cr.c3,ar.c0,ar.c1,ar.c2,ar.c3⟩))
   refine wp_region_held_drew (S:=fun w' => w'.cell? ⟨pg,0,none⟩ = some (.bool g0)/\w'.cell? ⟨pg,1,none⟩ = some (.slice g1 g2 g3)/\w'.cell? ⟨pg,2,none⟩ = some (.bool g4)/\w'.cell? ⟨pg,3,none⟩ = some (.slice g5 g6 g7)/\w'.cell? ⟨ph,0,none⟩ = some (.bool h0)/\w'.cell? ⟨ph,1,none⟩ = some (.slice h1 h2 h3)/\w'.cell? ⟨ph,2,none⟩ = some (.bool h4)/\w'.cell? ⟨ph,3,none⟩ = some (.slice h5 h6 h7)/\w'.cell? ⟨pc,0,none⟩ = some (.bool d0)/\w'.cell? ⟨pc,1,none⟩ = some (.slice d1 d2 d3)/\w'.cell? ⟨pc,2,none⟩ = some (.bool d4)/\w'.cell? ⟨pc,3,none⟩ = some (.slice d5 d6 d7)/\w'.cell? ⟨pa,0,none⟩ = some (.bool b0)/\w'.cell? ⟨pa,1,none⟩ = some (.slice b1 b2 b3)/\w'.cell? ⟨pa,2,none⟩ = some (.bool b4)/\w'.cell? ⟨pa,3,none⟩ = some (.slice b5 b6 b7)) (by kernel_rfl) (sS.out _ gr hr cr ar) (fun hHeld => ?_)
   generalize W5.drew = Wd at KK gr hr cr ar z1r z2r tg th tc ta hHeld ⊢
   clear KR
   refine tk 0 hHeld ?_
   refine tk 1 hHeld ?_
   refine tk 2 hHeld ?_
   refine tk 4 hHeld ?_
   refine tk 6 hHeld ?_
   refine tk 7 hHeld ?_
   refine rdy 3 fun K hK => ?_
   go_simp
   refine (ft_times _ th ta (by decide) (by decide) HBD.out.1 (by decide)).mono ?_
   rintro e w6 ⟨hkq,u1,rfl,t1⟩
   obtain ⟨k0,k1,k2,k3,k4,k5,k6,k7,rfl⟩:=t1.shape
   have gr:=gr.kept hkq
   have hr:=hr.kept hkq
   have cr:=cr.kept hkq
   have ar:=ar.kept hkq
   have z1r:=z1r.kept hkq
   have z2r:=z2r.kept hkq
   have KK:=KK.trans hkq
   have tg:=tg.kept hkq
   have th:=th.kept hkq
   have tc:=tc.kept hkq
   have ta:=ta.kept hkq
   refine hK.out _ _ (sS.out _ gr hr cr ar) (fun hHeld => ?_)
   clear hK K hkq
   refine rdy 5 fun K hK => ?_
   go_simp
   refine (ft_plus _ t1 tc (by decide) HBD.out.2.1 (by decide)).mono ?_
   rintro e w7 ⟨hkq,u2,rfl,t2⟩
   obtain ⟨l0,l1,l2,l3,l4,l5,l6,l7,rfl⟩:=t2.shape
   have gr:=gr.kept hkq
   have hr:=hr.kept hkq
   have cr:=cr.kept hkq
   have ar:=ar.kept hkq
   have z1r:=z1r.kept hkq
   have z2r:=z2r.kept hkq
   have KK:=KK.trans hkq
   have tg:=tg.kept hkq
   have ta:=ta.kept hkq
   refine hK.out _ _ (sS.out _ gr hr cr ar) (fun hHeld => ?_)
   clear hK K hkq
   refine rdy 8 fun K hK => ?_
   go_simp
   refine (ft_times _ tg ta (by decide) (by decide) HBD.out.2.2.1 (by decide)).mono ?_
   rintro e w8 ⟨hkq,u3,rfl,t3⟩
   obtain ⟨o0,o1,o2,o3,o4,o5,o6,o7,rfl⟩:=t3.shape
   have gr:=gr.kept hkq
   have hr:=hr.kept hkq
   have cr:=cr.kept hkq
   have ar:=ar.kept hkq
   have z1r:=z1r.kept hkq
   have z2r:=z2r.kept hkq
   have KK:=KK.trans hkq
   have tg:=tg.kept hkq
   have t2:=t2.kept hkq
   refine hK.out _ _ (sS.out _ gr hr cr ar) (fun hHeld => ?_)
   clear hK K hkq
   refine rdy 9 fun K hK => ?_
   go_simp
   refine (ft_less _ t2 t3 (by decide) HBD.out.2.2.2.1 (by decide)).mono ?_
   rintro e w9 ⟨hkq,u4,rfl,t4⟩
   obtain ⟨y0,y1,y2,y3,y4,y5,y6,y7,rfl⟩:=t4.shape
   have gr:=gr.kept hkq
   have hr:=hr.kept hkq
   have cr:=cr.kept hkq
   have ar:=ar.kept hkq
   have z1r:=z1r.kept hkq
   have z2r:=z2r.kept hkq
   have KK:=KK.trans hkq
   have tg:=tg.kept hkq
   refine hK.out _ _ (sS.out _ gr hr cr ar) (fun hHeld => ?_)
   clear hK K hkq
   have f0:=z1r.c0
   have f1:=z1r.c1
   have f2:=z1r.c2
   have f3:=z1r.c3
   have fz:=z1r.fz
   refine rdy 10 fun K hK => ?_
   go_simp
   have z1s:=frow_put4 z1r (.bool g0) (.slice g1 g2 g3) (.bool g4) (.slice g5 g6 g7)
   have gr:=frow_far gr HNE.out.1 (.bool g0) (.slice g1 g2 g3) (.bool g4) (.slice g5 g6 g7)
   have hr:=frow_far hr HN6.out.1 (.bool g0) (.slice g1 g2 g3) (.bool g4) (.slice g5 g6 g7)
   have cr:=frow_far cr HN6.out.2.1 (.bool g0) (.slice g1 g2 g3) (.bool g4) (.slice g5 g6 g7)
   have ar:=frow_far ar HN6.out.2.2.1 (.bool g0) (.slice g1 g2 g3) (.bool g4) (.slice g5 g6 g7)
   have z2r:=frow_far z2r HNE.out.2.1 (.bool g0) (.slice g1 g2 g3) (.bool g4) (.slice g5 g6 g7)
   have tg:=FT.put4 tg z1r (.bool g0) (.slice g1 g2 g3) (.bool g4) (.slice g5 g6 g7)
   have t4:=FT.put4 t4 z1r (.bool g0) (.slice g1 g2 g3) (.bool g4) (.slice g5 g6 g7)
   have KK:=kept_set4 KK HPz1.out (.bool g0) (.slice g1 g2 g3) (.bool g4) (.slice g5 g6 g7)
   unfold F.put4 at z1s gr hr cr ar z2r tg t4
   refine hK.out _ _ (sS.out _ gr hr cr ar) (fun hHeld => ?_)
   clear hK K f0 f1 f2 f3 fz z1r
   generalize (((w9.setCell ⟨z1,0,none⟩ (.bool g0)).setCell ⟨z1,1,none⟩ (.slice g1 g2 g3)).setCell ⟨z1,2,none⟩ (.bool g4)).setCell ⟨z1,3,none⟩ (.slice g5 g6 g7) = wa at z1s gr hr cr ar z2r tg t4 KK hHeld ⊢
   have f0:=z2r.c0
   have f1:=z2r.c1
   have f2:=z2r.c2
   have f3:=z2r.c3
   have fz:=z2r.fz
   refine rdy 11 fun K hK => ?_
   go_simp
   have z2s:=frow_put4 z2r (.bool y0) (.slice y1 y2 y3) (.bool y4) (.slice y5 y6 y7)
   have gr:=frow_far gr HNE.out.2.2.1 (.bool y0) (.slice y1 y2 y3) (.bool y4) (.slice y5 y6 y7)
   have hr:=frow_far hr HN6.out.2.2.2.1 (.bool y0) (.slice y1 y2 y3) (.bool y4) (.slice y5 y6 y7)
   have cr:=frow_far cr HN6.out.2.2.2.2.1 (.bool y0) (.slice y1 y2 y3) (.bool y4) (.slice y5 y6 y7)
   have ar:=frow_far ar HN6.out.2.2.2.2.2 (.bool y0) (.slice y1 y2 y3) (.bool y4) (.slice y5 y6 y7)
   have z1s:=frow_far z1s HNE.out.2.2.2 (.bool y0) (.slice y1 y2 y3) (.bool y4) (.slice y5 y6 y7)
   have tg:=FT.put4 tg z2r (.bool y0) (.slice y1 y2 y3) (.bool y4) (.slice y5 y6 y7)
   have t4:=FT.put4 t4 z2r (.bool y0) (.slice y1 y2 y3) (.bool y4) (.slice y5 y6 y7)
   have KK:=kept_set4 KK HPz2.out (.bool y0) (.slice y1 y2 y3) (.bool y4) (.slice y5 y6 y7)
   unfold F.put4 at z2s gr hr cr ar z1s tg t4
   refine hK.out _ _ (sS.out _ gr hr cr ar) (fun hHeld => ?_)
   clear hK K f0 f1 f2 f3 fz z2r
   generalize (((wa.setCell ⟨z2,0,none⟩ (.bool y0)).setCell ⟨z2,1,none⟩ (.slice y1 y2 y3)).setCell ⟨z2,2,none⟩ (.bool y4)).setCell ⟨z2,3,none⟩ (.slice y5 y6 y7) = wb at z2s gr hr cr ar z1s tg t4 KK hHeld ⊢
   refine dn ?_
   have f0:=z1s.c0
   have f1:=z1s.c1
   have f2:=z1s.c2
   have f3:=z1s.c3
   have h0:=z2s.c0
   have h1:=z2s.c1
   have h2:=z2s.c2
   have h3:=z2s.c3
   clear gr hr cr ar sS hHeld
   go_wp2_with fail
   exact bodyPost_ret (v:=.tuple #[(.agg #[.bool g0,.slice g1 g2 g3,.bool g4,.slice g5 g6 g7]),(.agg #[.bool y0,.slice y1 y2 y3,.bool y4,.slice y5 y6 y7])]) (by simp [results,Tryz.results33,go_sem,f0,f1,f2,f3,h0,h1,h2,h3]) rfl ⟨KK,_,_,_,rfl,tg,t4,HBD.out.2.2.2.2.1.trans HOW.out.symm,HBD.out.2.2.2.2.2⟩
open Q (hid' Row3 Row2 okN)
set_option maxRecDepth 100000 in
set_option maxHeartbeats 4000000 in
theorem same3_any (a b:Option Addr) (n c c':Nat) (vs:List (Int × Int)) (w:World) (h1:NSl w (.slice a n c) vs) (h2:NSl w (.slice b n c') vs) (hn:n<=9223372036854775807) :
  Calls Tryz.prog 48 #[.slice a n c,.slice b n c'] w fun e w' => Kept w w'/\e = .returned (.bool true):=by
 have HS:=hid' (And.intro h1 h2)
 clear h1 h2
 go_enter Tryz.func48,Tryz.ntmps48
 go_wp2_with fail
 go_loopw [5] (fun vi wr => ∃ j:Nat,j<=n/\vi = .int .i64 (j:Int)/\Hid (Kept w wr)) (fun vi _ => n - (intOf vi).toNat)
 case atStart => exact ⟨0,Nat.zero_le _,rfl,Kept.refl w⟩
 case round =>
  obtain ⟨j,hj,rfl,I⟩:=hrel
  by_cases hlt:j < n
  ·
   have hltz:(j:Int) < (n:Int):=by omega
   obtain ⟨ao1,cap1,hv1,hx1⟩:=HS.out.1.kept I.out
   simp only [Value.slice.injEq] at hv1
   obtain ⟨rfl,hl1,rfl⟩:=hv1
   obtain ⟨b1,o1,rfl,hb1,hc1⟩:=hx1 (by omega)
   obtain ⟨ao2,cap2,hv2,hx2⟩:=HS.out.2.kept I.out
   simp only [Value.slice.injEq] at hv2
   obtain ⟨rfl,hl2,rfl⟩:=hv2
   obtain ⟨b2,o2,rfl,hb2,hc2⟩:=hx2 (by omega)
   obtain ⟨u0,u1⟩:=hc1 j (by omega)
   obtain ⟨v0,v1⟩:=hc2 j (by omega)
   clear hx1 hc1 hb1 hl1 hx2 hc2 hb2 hl2
   generalize vs.getD j (0,0) = y at u0 u1 v0 v1
   obtain ⟨y0,y1⟩:=y
   dsimp only at u0 u1 v0 v1
   go_wp2_with fail
   go_quiet (fail)
   go_wp2_with fail
   go_roundw
   case rel => exact ⟨j + 1,by omega,by go_num,I.out.drewN _⟩
   case measure => show n - ((j:Int) + 1).toNat < n - (j:Int).toNat; omega
  ·
   obtain rfl:j = n:=by omega
   have hltz:¬ (j:Int) < (j:Int):=by omega
   go_wp2_with fail
   go_ret
   exact ⟨I.out,rfl⟩
set_option maxRecDepth 100000 in
set_option maxHeartbeats 4000000 in
theorem same5_any (s:ByteArray) (k:Int) (a1 a2 b1 b2:Option Addr) (n c m c' d d':Nat) (gs vs:List (Int × Int)) (w:World) (h1:NSl w (.slice a1 n c) gs) (h2:NSl w (.slice a2 m c') vs) (h3:NSl w (.slice b1 n d) gs) (h4:NSl w (.slice b2 m d') vs) (hn:n<=4611686018427387903) (hm:m<=4611686018427387903) :
  Calls Tryz.prog 19 #[.agg #[.string s,.int .u8 k,.slice a1 n c,.slice a2 m c'],.agg #[.string s,.int .u8 k,.slice b1 n d,.slice b2 m d']] w fun e w' => Kept w w'/\e = .returned (.bool true):=by
 have HS:=hid' (And.intro h1 (And.intro h2 (And.intro h3 h4)))
 clear h1 h2 h3 h4
 go_enter Tryz.func19,Tryz.ntmps19
 go_upto_region 1 with fail
 have hA:=(Row4.alloc 24 w (.string s) (.int .u8 k) (.slice a1 n c) (.slice a2 m c')).kept ((Kept.refl (w.alloc (.cells #[.string s,.int .u8 k,.slice a1 n c,.slice a2 m c'] 24))).alloc (.cells #[.string s,.int .u8 k,.slice b1 n d,.slice b2 m d'] 24))
 have hB:=Row4.alloc 24 (w.alloc (.cells #[.string s,.int .u8 k,.slice a1 n c,.slice a2 m c'] 24)) (.string s) (.int .u8 k) (.slice b1 n d) (.slice b2 m d')
 have hK:=(((Kept.refl w).alloc (.cells #[.string s,.int .u8 k,.slice a1 n c,.slice a2 m c'] 24)).alloc (.cells #[.string s,.int .u8 k,.slice b1 n d,.slice b2 m d'] 24))
 simp only [World.size_alloc] at hB
 generalize (w.alloc (.cells #[.string s,.int .u8 k,.slice a1 n c,.slice a2 m c'] 24)).alloc (.cells #[.string s,.int .u8 k,.slice b1 n d,.slice b2 m d'] 24) = W at hA hB hK ⊢
 obtain ⟨q,hqq⟩:∃ q,q = w.heap.size + 1:=⟨_,rfl⟩
 rw [<- hqq] at hB ⊢
 obtain ⟨p,hqp⟩:∃ q,q = w.heap.size:=⟨_,rfl⟩
 rw [<- hqp] at hA ⊢
 clear hqp hqq
 have HK:=hid' (And.intro hK (And.intro hA hB))
 have u0:=hA.c0
 have u1:=hA.c1
 have u2:=hA.c2
 have v0:=hB.c0
 have v1:=hB.c1
 have v2:=hB.c2
 clear hK hA hB
 go_wp2_with fail
 refine (same3_any _ _ n _ _ gs _ (HS.out.1.kept HK.out.1) (HS.out.2.2.1.kept HK.out.1) (by omega)).mono ?_
 rintro e w1 ⟨hk1,rfl⟩
 have HK:=hid' (And.intro (HK.out.1.trans hk1) (And.intro (HK.out.2.1.kept hk1) (HK.out.2.2.kept hk1)))
 clear hk1 u0 u1 u2 v0 v1 v2
 have u3:=HK.out.2.1.c3
 have v3:=HK.out.2.2.c3
 go_wp2_with fail
 refine (same3_any _ _ m _ _ vs _ (HS.out.2.1.kept HK.out.1) (HS.out.2.2.2.kept HK.out.1) (by omega)).mono ?_
 rintro e w2 ⟨hk2,rfl⟩
 have HK:=hid' (HK.out.1.trans hk2)
 clear hk2 u3 v3
 go_wp2_with fail
 go_ret
 exact ⟨HK.out,rfl⟩
end V
end Go.Proofs.YthfbfbfambbkaaaGreatDoor
