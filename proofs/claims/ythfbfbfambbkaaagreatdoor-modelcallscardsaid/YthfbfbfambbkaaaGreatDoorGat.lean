/- model.Side. model.Part. model.Count. shuntref05.Name. A step of a drawn region that comes up alone. shuntref05.Valid. shuntref05.Fault. shuntref03.Same, shuntref05.Same. Regions whose last step stores what they load: a condition held till that step. shuntref02.Same of two fractions that are one. -/
import Derived.Test.YthfbfbfambbkaaaGreatDoorGas
import Derived.Test.YthfbfbfambbkaaaGreatDoorGar
import Derived.Deep.AppendLies
import Derived.Test.YthfbfbfambbkaaaGreatDoorGan
namespace Go.Proofs.YthfbfbfambbkaaaGreatDoor
open Go.RowKit
namespace V
open Q (hid' Row3 Row2 okN okN_bd Scl)
theorem refM_zero {s:List UInt8} {k:Int} {gs vs:List (Int × Int)} {i:Int} (h:refM s k gs vs i = 0):okM s k gs vs = true∧0≤i∧i < gs.length:=by
 unfold refM at h
 split at h
 ·
  next h1 =>
  split at h
  ·
   omega
  ·
   next h2 => exact ⟨h1,by omega,by omega⟩
 ·
  omega
theorem fits_len {k:Int} {n m:Nat} (h:fitsM k n m = true):n = m + 1∧n≤4:=by
 unfold fitsM at h
 split at h
 ·
  simpa using h
 ·
  split at h
  ·
   simp at h; omega
  ·
   cases h
open Go.Sort (grow) in
set_option maxRecDepth 100000 in
set_option maxHeartbeats 8000000 in
theorem sideM_any (s:ByteArray) (k:Int) (a1 a2:Option Addr) (n c m c':Nat) (gs vs:List (Int × Int)) (i':Int) (sg nA:Bool) (b1 b2:Option Addr) (k1 c1 k2 c2:Nat) (an ad:List Nat) (w:World) (hs:s.size≤9223372036854775807) (h1:NSl w (.slice a1 n c) gs) (h2:NSl w (.slice a2 m c') vs) (hn:n≤4611686018427387903) (hm:m≤4611686018427387903)
  (ha:Sl w (.slice b1 k1 c1) an) (had:Sl w (.slice b2 k2 c2) ad) (hla:an.length≤9223372036854775807) (hld:ad.length≤9223372036854775807) :
  Calls Tryz.prog 11 #[.agg #[.string s,.int .u8 k,.slice a1 n c,.slice a2 m c'],.int .i64 i',.agg #[.bool sg,.slice b1 k1 c1,.bool nA,.slice b2 k2 c2]] w fun e w' => Kept w w'∧∃ z f:Int,e = .returned (.tuple #[.int .i64 z,.int .i64 f])∧SideIs (refM s.data.toList k gs vs i') sg nA an ad vs i' z f:=by
 have HS:=hid' (And.intro h1 (And.intro h2 (And.intro ha (And.intro had (And.intro hla hld)))))
 clear h1 h2 ha had hla hld
 obtain ⟨rf,hrf⟩:∃ rf,rf = refM s.data.toList k gs vs i':=⟨_,rfl⟩
 rw [← hrf]
 have HRE:=hid' hrf
 clear hrf
 go_enter Tryz.func11,Tryz.ntmps11
 go_upto_region 1 with fail
 have hM:=(Row4.alloc 24 w (.string s) (.int .u8 k) (.slice a1 n c) (.slice a2 m c')).kept ((Kept.refl (w.alloc (.cells #[.string s,.int .u8 k,.slice a1 n c,.slice a2 m c'] 24))).alloc (.cells #[.bool sg,.slice b1 k1 c1,.bool nA,.slice b2 k2 c2] 29))
 have hU:=F.RRow.alloc (w.alloc (.cells #[.string s,.int .u8 k,.slice a1 n c,.slice a2 m c'] 24)) (.bool sg) (.slice b1 k1 c1) (.bool nA) (.slice b2 k2 c2)
 have hK:=((Kept.refl w).alloc (.cells #[.string s,.int .u8 k,.slice a1 n c,.slice a2 m c'] 24)).alloc (.cells #[.bool sg,.slice b1 k1 c1,.bool nA,.slice b2 k2 c2] 29)
 rw [World.size_alloc] at hU
 generalize (w.alloc (.cells #[.string s,.int .u8 k,.slice a1 n c,.slice a2 m c'] 24)).alloc (.cells #[.bool sg,.slice b1 k1 c1,.bool nA,.slice b2 k2 c2] 29) = W at hM hU hK ⊢
 obtain ⟨q,hq⟩:∃ q,q = w.heap.size + 1:=⟨_,rfl⟩
 rw [← hq] at hU ⊢
 obtain ⟨p,hp⟩:∃ q,q = w.heap.size:=⟨_,rfl⟩
 rw [← hp] at hM ⊢
 clear hq hp
 have q0:=hM.c0
 have q1:=hM.c1
 have q2:=hM.c2
 have q3:=hM.c3
 have HK:=hid' (And.intro hK (And.intro hM hU))
 clear hK hM hU
 go_wp2_with fail
 refine (refusalM_any s k a1 a2 n c m c' gs vs i' _ hs (HS.out.1.kept HK.out.1) (HS.out.2.1.kept HK.out.1) hn hm).mono ?_
 rintro e w1 ⟨hk1,rfl⟩
 have HK:=hid' (And.intro (HK.out.1.trans hk1) (And.intro (HK.out.2.1.kept hk1) (HK.out.2.2.kept hk1)))
 clear hk1 q0 q1 q2 q3
 rw [← HRE.out]
 have HOK:=hid' (fun (h:rf = 0) => refM_zero (s:=s.data.toList) (k:=k) (gs:=gs) (vs:=vs) (i:=i') (by rw [← HRE.out]; exact h))
 clear HRE
 by_cases hr0:rf = 0
 ·
  have HOA:=hid' (okM_all (HOK.out hr0).1)
  have hi:=(HOK.out hr0).2
  have HRF:=hid' hr0
  clear HOK
  obtain ⟨i,rfl⟩:∃ i:Nat,i' = (i:Int):=⟨i'.toNat,by omega⟩
  have HL:=hid' (show m = vs.length∧n = gs.length∧n = m + 1∧i < n by
   have e1:=HS.out.1.len
   have e2:=HS.out.2.1.len
   have e3:=fits_len HOA.out.2.2.2
   exact ⟨e2,e1,by omega,by omega⟩)
  have him:(i:Int) < 4611686018427387904:=by have:=HL.out; omega
  have q0:=HK.out.2.2.c0
  have q1:=HK.out.2.2.c1
  have q2:=HK.out.2.2.c2
  have q3:=HK.out.2.2.c3
  have hr1:(rf == 0) = true:=by simpa using hr0
  clear hi
  go_wp2_with fail
  refine (F.Check_any sg nA b1 b2 k1 c1 k2 c2 an ad _ (HS.out.2.2.1.kept HK.out.1) (HS.out.2.2.2.1.kept HK.out.1) HS.out.2.2.2.2.1 HS.out.2.2.2.2.2).mono ?_
  rintro e w2 ⟨hk2,cc,rfl,hcc⟩
  have HK:=hid' (And.intro (HK.out.1.trans hk2) (And.intro (HK.out.2.1.kept hk2) (HK.out.2.2.kept hk2)))
  clear hk2 q0 q1 q2 q3
  have HCC:=hid' hcc
  clear hcc
  by_cases hc0:cc = 0
  ·
   subst hc0
   have HR:=hid' (refused_rat HCC.out)
   by_cases hi0:i = 0
   ·
    subst hi0
    have hml:=HK.out.2.1.lt
    have c3':=HK.out.2.1.c3
    go_upto_region 7 with fail
    have KR:Kept w2 w2.drew:=(Kept.refl _).drew
    have sS:=hid' (fun (V:World) (K:Kept w2 V) => (show V.cell? ⟨p,3,none⟩ = some (.slice a2 m c') from (Below.cell K (p:=⟨p,3,none⟩) hml).trans c3'))
    clear c3' hml
    refine wp_region_held_drew (S:=fun w' => w'.cell? ⟨p,3,none⟩ = some (.slice a2 m c')) (by kernel_rfl) (sS.out _ KR) (fun hHeld => ?_)
    generalize hWd:w2.drew = W3 at KR hHeld ⊢
    clear hWd
    refine take1 (i:=0) (v:=?vn5x1) rfl rfl (by kernel_rfl) (by kernel_rfl) (by kernel_rfl) (fun _ _ _ h => h) (Or.inl ⟨by kernel_rfl,?yn5x1⟩) hHeld ?rn5x1
    case yn5x1 =>
     intro w' hSw
     have hSw0:=hSw
     go_simp
     with_reducible rfl
    case rn5x1 =>
    simp only [List.set_cons_zero,List.set_cons_succ]
    refine take1 (i:=1) (v:=?vn5x2) rfl rfl (by kernel_rfl) (by kernel_rfl) (by kernel_rfl) (fun _ _ _ h => h) (Or.inl ⟨by kernel_rfl,?yn5x2⟩) hHeld ?rn5x2
    case yn5x2 =>
     intro w' hSw
     have hSw0:=hSw
     go_simp
     with_reducible rfl
    case rn5x2 =>
    simp only [List.set_cons_zero,List.set_cons_succ]
    refine take1 (i:=2) (v:=?vn5x3) rfl rfl (by kernel_rfl) (by kernel_rfl) (by kernel_rfl) (fun _ _ _ h => h) (Or.inl ⟨by kernel_rfl,?yn5x3⟩) hHeld ?rn5x3
    case yn5x3 =>
     intro w' hSw
     have hSw0:=hSw
     go_simp
     with_reducible rfl
    case rn5x3 =>
    simp only [List.set_cons_zero,List.set_cons_succ]
    refine take1 (i:=3) (v:=undef) rfl rfl (by kernel_rfl) (by kernel_rfl) (by kernel_rfl) (fun _ _ _ h => h) (Or.inr ⟨by kernel_rfl,rfl⟩) hHeld ?rn5x4
    case rn5x4 =>
    simp only [List.set_cons_zero,List.set_cons_succ]
    refine take1 (i:=4) (v:=undef) rfl rfl (by kernel_rfl) (by kernel_rfl) (by kernel_rfl) (fun _ _ _ h => h) (Or.inr ⟨by kernel_rfl,rfl⟩) hHeld ?rn5x5
    case rn5x5 =>
    simp only [List.set_cons_zero,List.set_cons_succ]
    refine take1 (i:=5) (v:=undef) rfl rfl (by kernel_rfl) (by kernel_rfl) (by kernel_rfl) (fun _ _ _ h => h) (Or.inr ⟨by kernel_rfl,rfl⟩) hHeld ?rn5x6
    case rn5x6 =>
    simp only [List.set_cons_zero,List.set_cons_succ]
    refine take1 (i:=6) (v:=undef) rfl rfl (by kernel_rfl) (by kernel_rfl) (by kernel_rfl) (fun _ _ _ h => h) (Or.inr ⟨by kernel_rfl,rfl⟩) hHeld ?rn5x7
    case rn5x7 =>
    simp only [List.set_cons_zero,List.set_cons_succ]
    refine take1 (i:=7) (v:=undef) rfl rfl (by kernel_rfl) (by kernel_rfl) (by kernel_rfl) (fun _ _ _ h => h) (Or.inr ⟨by kernel_rfl,rfl⟩) hHeld ?rn5x8
    case rn5x8 =>
    simp only [List.set_cons_zero,List.set_cons_succ]
    refine take1 (i:=8) (v:=undef) rfl rfl (by kernel_rfl) (by kernel_rfl) (by kernel_rfl) (fun _ _ _ h => h) (Or.inr ⟨by kernel_rfl,rfl⟩) hHeld ?rn5x9
    case rn5x9 =>
    simp only [List.set_cons_zero,List.set_cons_succ]
    refine take1 (i:=9) (v:=undef) rfl rfl (by kernel_rfl) (by kernel_rfl) (by kernel_rfl) (fun _ _ _ h => h) (Or.inr ⟨by kernel_rfl,rfl⟩) hHeld ?rn5x10
    case rn5x10 =>
    simp only [List.set_cons_zero,List.set_cons_succ]
    refine take1 (i:=10) (v:=undef) rfl rfl (by kernel_rfl) (by kernel_rfl) (by kernel_rfl) (fun _ _ _ h => h) (Or.inr ⟨by kernel_rfl,rfl⟩) hHeld ?rn5x11
    case rn5x11 =>
    simp only [List.set_cons_zero,List.set_cons_succ]
    refine take1 (i:=11) (v:=undef) rfl rfl (by kernel_rfl) (by kernel_rfl) (by kernel_rfl) (fun _ _ _ h => h) (Or.inr ⟨by kernel_rfl,rfl⟩) hHeld ?rn5x12
    case rn5x12 =>
    simp only [List.set_cons_zero,List.set_cons_succ]
    refine take1 (i:=12) (v:=?vn5x13) rfl rfl (by kernel_rfl) (by kernel_rfl) (by kernel_rfl) (fun _ _ _ h => h) (Or.inl ⟨by kernel_rfl,?yn5x13⟩) hHeld ?rn5x13
    case yn5x13 =>
     intro w' hSw
     have hSw0:=hSw
     go_simp
     with_reducible rfl
    case rn5x13 =>
    simp only [List.set_cons_zero,List.set_cons_succ]
    refine take1 (i:=13) (v:=?vn5x14) rfl rfl (by kernel_rfl) (by kernel_rfl) (by kernel_rfl) (fun _ _ _ h => h) (Or.inl ⟨by kernel_rfl,?yn5x14⟩) hHeld ?rn5x14
    case yn5x14 =>
     intro w' hSw
     have hSw0:=hSw
     go_simp
     with_reducible rfl
    case rn5x14 =>
    simp only [List.set_cons_zero,List.set_cons_succ]
    refine wpAnyH_done (by kernel_rfl) ?_ _
    have HK:=hid' (And.intro (HK.out.1.trans KR) (And.intro (HK.out.2.1.kept KR) (HK.out.2.2.kept KR)))
    clear KR sS hHeld
    by_cases him:0 < vs.length
    ·
     have HIM:=hid' him
     have him':(0:Int) < (m:Int):=by have:=HL.out; omega
     have him2:0 < m:=by omega
     clear him
     obtain ⟨ao',cap',hv,hx⟩:=HS.out.2.1.kept HK.out.1
     simp only [Value.slice.injEq] at hv
     obtain ⟨rfl,hq',rfl⟩:=hv
     obtain ⟨b,off,rfl,hb,hc⟩:=hx (by have:=HL.out; omega)
     obtain ⟨d0,d1⟩:=hc (0) (by have:=HL.out; omega)
     rw [Nat.zero_mul,Nat.add_zero] at d0 d1
     have ok1:okN (vs.getD (0) (0,0)).1 (vs.getD (0) (0,0)).2 = true:=HOA.out.2.1 _ (by
      rw [List.getD_eq_getElem?_getD,List.getElem?_eq_getElem (by have:=HL.out; omega)]
      exact List.getElem_mem (by have:=HL.out; omega))
     obtain ⟨x,hX⟩:∃ x,x = vs.getD (0) (0,0):=⟨_,rfl⟩
     rw [← hX] at d0 d1 ok1
     have HX:=hid' hX
     obtain ⟨x0,x1⟩:=x
     dsimp only at d0 d1 ok1
     have hu:=HK.out.2.2
     have hml:=HK.out.2.1.lt
     have c3':=HK.out.2.1.c3
     have hul:=hu.lt
     clear hq' hx hc hX
     go_upto_region 9 with fail
     have KR:Kept W3 W3.drew:=(Kept.refl _).drew
     have sS:=hid' (fun (V:World) (K:Kept W3 V) => (show V.cell? ⟨p,3,none⟩ = some (.slice (some ⟨b,off,none⟩) m c')∧V.cell? ⟨b,off,none⟩ = some (.int .i64 x0)∧V.cell? ⟨b,off + 1,none⟩ = some (.int .i64 x1)∧V.cell? ⟨q,0,none⟩ = some (.bool sg)∧V.cell? ⟨q,1,none⟩ = some (.slice b1 k1 c1)∧V.cell? ⟨q,2,none⟩ = some (.bool nA)∧V.cell? ⟨q,3,none⟩ = some (.slice b2 k2 c2) from ⟨(Below.cell K (p:=⟨p,3,none⟩) hml).trans c3',(Below.cell K (p:=⟨b,off,none⟩) hb).trans d0,(Below.cell K (p:=⟨b,off + 1,none⟩) hb).trans d1,(Below.cell K (p:=⟨q,0,none⟩) hul).trans hu.c0,(Below.cell K (p:=⟨q,1,none⟩) hul).trans hu.c1,(Below.cell K (p:=⟨q,2,none⟩) hul).trans hu.c2,(Below.cell K (p:=⟨q,3,none⟩) hul).trans hu.c3⟩))
     clear c3' d0 d1 hb hu hml hul
     refine wp_region_held_drew (S:=fun w' => w'.cell? ⟨p,3,none⟩ = some (.slice (some ⟨b,off,none⟩) m c')∧w'.cell? ⟨b,off,none⟩ = some (.int .i64 x0)∧w'.cell? ⟨b,off + 1,none⟩ = some (.int .i64 x1)∧w'.cell? ⟨q,0,none⟩ = some (.bool sg)∧w'.cell? ⟨q,1,none⟩ = some (.slice b1 k1 c1)∧w'.cell? ⟨q,2,none⟩ = some (.bool nA)∧w'.cell? ⟨q,3,none⟩ = some (.slice b2 k2 c2)) (by kernel_rfl) (sS.out _ KR) (fun hHeld => ?_)
     generalize W3.drew = Wd at KR hHeld ⊢
     refine take1 (i:=0) (v:=?vn3x1) rfl rfl (by kernel_rfl) (by kernel_rfl) (by kernel_rfl) (fun _ _ _ h => h) (Or.inl ⟨by kernel_rfl,?yn3x1⟩) hHeld ?rn3x1
     case yn3x1 =>
      intro w' hSw
      obtain ⟨hSw0,hSw1,hSw2,hSw3,hSw4,hSw5,hSw6⟩:=hSw
      go_simp
      with_reducible rfl
     case rn3x1 =>
     simp only [List.set_cons_zero,List.set_cons_succ]
     refine take1 (i:=1) (v:=?vn3x2) rfl rfl (by kernel_rfl) (by kernel_rfl) (by kernel_rfl) (fun _ _ _ h => h) (Or.inl ⟨by kernel_rfl,?yn3x2⟩) hHeld ?rn3x2
     case yn3x2 =>
      intro w' hSw
      obtain ⟨hSw0,hSw1,hSw2,hSw3,hSw4,hSw5,hSw6⟩:=hSw
      go_simp
      with_reducible rfl
     case rn3x2 =>
     simp only [List.set_cons_zero,List.set_cons_succ]
     refine take1 (i:=2) (v:=?vn3x3) rfl rfl (by kernel_rfl) (by kernel_rfl) (by kernel_rfl) (fun _ _ _ h => h) (Or.inl ⟨by kernel_rfl,?yn3x3⟩) hHeld ?rn3x3
     case yn3x3 =>
      intro w' hSw
      obtain ⟨hSw0,hSw1,hSw2,hSw3,hSw4,hSw5,hSw6⟩:=hSw
      go_simp
      with_reducible rfl
     case rn3x3 =>
     simp only [List.set_cons_zero,List.set_cons_succ]
     refine take1 (i:=3) (v:=?vn3x4) rfl rfl (by kernel_rfl) (by kernel_rfl) (by kernel_rfl) (fun _ _ _ h => h) (Or.inl ⟨by kernel_rfl,?yn3x4⟩) hHeld ?rn3x4
     case yn3x4 =>
      intro w' hSw
      obtain ⟨hSw0,hSw1,hSw2,hSw3,hSw4,hSw5,hSw6⟩:=hSw
      go_simp
      with_reducible rfl
     case rn3x4 =>
     simp only [List.set_cons_zero,List.set_cons_succ]
     refine take1 (i:=4) (v:=?vn3x5) rfl rfl (by kernel_rfl) (by kernel_rfl) (by kernel_rfl) (fun _ _ _ h => h) (Or.inl ⟨by kernel_rfl,?yn3x5⟩) hHeld ?rn3x5
     case yn3x5 =>
      intro w' hSw
      obtain ⟨hSw0,hSw1,hSw2,hSw3,hSw4,hSw5,hSw6⟩:=hSw
      go_simp
      with_reducible rfl
     case rn3x5 =>
     simp only [List.set_cons_zero,List.set_cons_succ]
     refine take1 (i:=5) (v:=?vn3x6) rfl rfl (by kernel_rfl) (by kernel_rfl) (by kernel_rfl) (fun _ _ _ h => h) (Or.inl ⟨by kernel_rfl,?yn3x6⟩) hHeld ?rn3x6
     case yn3x6 =>
      intro w' hSw
      obtain ⟨hSw0,hSw1,hSw2,hSw3,hSw4,hSw5,hSw6⟩:=hSw
      go_simp
      with_reducible rfl
     case rn3x6 =>
     simp only [List.set_cons_zero,List.set_cons_succ]
     refine take1 (i:=6) (v:=?vn3x7) rfl rfl (by kernel_rfl) (by kernel_rfl) (by kernel_rfl) (fun _ _ _ h => h) (Or.inl ⟨by kernel_rfl,?yn3x7⟩) hHeld ?rn3x7
     case yn3x7 =>
      intro w' hSw
      obtain ⟨hSw0,hSw1,hSw2,hSw3,hSw4,hSw5,hSw6⟩:=hSw
      go_simp
      with_reducible rfl
     case rn3x7 =>
     simp only [List.set_cons_zero,List.set_cons_succ]
     refine take1 (i:=7) (v:=?vn3x8) rfl rfl (by kernel_rfl) (by kernel_rfl) (by kernel_rfl) (fun _ _ _ h => h) (Or.inl ⟨by kernel_rfl,?yn3x8⟩) hHeld ?rn3x8
     case yn3x8 =>
      intro w' hSw
      obtain ⟨hSw0,hSw1,hSw2,hSw3,hSw4,hSw5,hSw6⟩:=hSw
      go_simp
      with_reducible rfl
     case rn3x8 =>
     simp only [List.set_cons_zero,List.set_cons_succ]
     refine take1 (i:=8) (v:=?vn3x9) rfl rfl (by kernel_rfl) (by kernel_rfl) (by kernel_rfl) (fun _ _ _ h => h) (Or.inl ⟨by kernel_rfl,?yn3x9⟩) hHeld ?rn3x9
     case yn3x9 =>
      intro w' hSw
      obtain ⟨hSw0,hSw1,hSw2,hSw3,hSw4,hSw5,hSw6⟩:=hSw
      go_simp
      with_reducible rfl
     case rn3x9 =>
     simp only [List.set_cons_zero,List.set_cons_succ]
     refine take1 (i:=9) (v:=?vn3x10) rfl rfl (by kernel_rfl) (by kernel_rfl) (by kernel_rfl) (fun _ _ _ h => h) (Or.inl ⟨by kernel_rfl,?yn3x10⟩) hHeld ?rn3x10
     case yn3x10 =>
      intro w' hSw
      obtain ⟨hSw0,hSw1,hSw2,hSw3,hSw4,hSw5,hSw6⟩:=hSw
      go_simp
      with_reducible rfl
     case rn3x10 =>
     simp only [List.set_cons_zero,List.set_cons_succ]
     refine take1 (i:=10) (v:=?vn3x11) rfl rfl (by kernel_rfl) (by kernel_rfl) (by kernel_rfl) (fun _ _ _ h => h) (Or.inl ⟨by kernel_rfl,?yn3x11⟩) hHeld ?rn3x11
     case yn3x11 =>
      intro w' hSw
      obtain ⟨hSw0,hSw1,hSw2,hSw3,hSw4,hSw5,hSw6⟩:=hSw
      go_simp
      with_reducible rfl
     case rn3x11 =>
     simp only [List.set_cons_zero,List.set_cons_succ]
     refine take1 (i:=11) (v:=?vn3x12) rfl rfl (by kernel_rfl) (by kernel_rfl) (by kernel_rfl) (fun _ _ _ h => h) (Or.inl ⟨by kernel_rfl,?yn3x12⟩) hHeld ?rn3x12
     case yn3x12 =>
      intro w' hSw
      obtain ⟨hSw0,hSw1,hSw2,hSw3,hSw4,hSw5,hSw6⟩:=hSw
      go_simp
      with_reducible rfl
     case rn3x12 =>
     simp only [List.set_cons_zero,List.set_cons_succ]
     refine wpAnyH_ready (rs:=[12]) (by kernel_rfl) (by simp) ?_
     refine AllReadyH.cons rfl (fun K hK => ?_) AllReadyH.nil
     go_simp
     refine (against_any sg nA b1 b2 k1 c1 k2 c2 an ad x0 x1 _ (HS.out.2.2.1.kept (HK.out.1.trans KR)) (HS.out.2.2.2.1.kept (HK.out.1.trans KR)) HR.out ok1).mono ?_
     rintro e W4 ⟨hkq,rfl⟩
     obtain ⟨ag2,hag⟩:∃ ag,ag = agn (M.int sg an) (M.val ad) (x0,x1):=⟨_,rfl⟩
     rw [← hag]
     have Hag2:=hid' (show ag2 = agn (M.int sg an) (M.val ad) (vs.getD (0) (0,0)) by rw [hag,HX.out])
     have KR:=KR.trans hkq
     refine hK.out _ _ (sS.out _ KR) (fun hHeld => ?_)
     have HK:=hid' (And.intro (HK.out.1.trans KR) (And.intro (HK.out.2.1.kept KR) (HK.out.2.2.kept KR)))
     clear hK K hkq hag ok1 HX KR sS
     by_cases g2:0 < ag2
     ·
      have HG2:=hid' g2
      refine take1 (i:=13) (v:=?vn1x1) rfl rfl (by kernel_rfl) (by kernel_rfl) (by kernel_rfl) (fun _ _ _ h => h) (Or.inl ⟨by kernel_rfl,?yn1x1⟩) hHeld ?rn1x1
      case yn1x1 =>
       intro w' hSw
       obtain ⟨hSw0,hSw1,hSw2,hSw3,hSw4,hSw5,hSw6⟩:=hSw
       go_simp
       with_reducible rfl
      case rn1x1 =>
      simp only [List.set_cons_zero,List.set_cons_succ]
      refine take1 (i:=14) (v:=?vn1x2) rfl rfl (by kernel_rfl) (by kernel_rfl) (by kernel_rfl) (fun _ _ _ h => h) (Or.inl ⟨by kernel_rfl,?yn1x2⟩) hHeld ?rn1x2
      case yn1x2 =>
       intro w' hSw
       obtain ⟨hSw0,hSw1,hSw2,hSw3,hSw4,hSw5,hSw6⟩:=hSw
       go_simp
       with_reducible rfl
      case rn1x2 =>
      simp only [List.set_cons_zero,List.set_cons_succ]
      refine take1 (i:=15) (v:=?vn1x3) rfl rfl (by kernel_rfl) (by kernel_rfl) (by kernel_rfl) (fun _ _ _ h => h) (Or.inl ⟨by kernel_rfl,?yn1x3⟩) hHeld ?rn1x3
      case yn1x3 =>
       intro w' hSw
       obtain ⟨hSw0,hSw1,hSw2,hSw3,hSw4,hSw5,hSw6⟩:=hSw
       go_simp
       with_reducible rfl
      case rn1x3 =>
      simp only [List.set_cons_zero,List.set_cons_succ]
      refine wpAnyH_done (by kernel_rfl) ?_ _
      clear hHeld
      go_wp2_with fail
      go_ret2
      exact ⟨HK.out.1,1,0,rfl,.inr ⟨by first | exact HRF.out | rfl,0,HCC.out,.inr ⟨rfl,rfl,by (first | rw [Int.toNat_natCast] | rw [Int.toNat_zero] | rw [show ((i0:Int) + 1).toNat = i0 + 1 by omega]); unfold sideS; rw [if_neg (fun h => absurd h.1 (by omega)),if_pos ⟨HIM.out,by rw [← Hag2.out]; exact HG2.out⟩]⟩⟩⟩
     ·
      have HG2:=hid' g2
      refine take1 (i:=13) (v:=?vn2x1) rfl rfl (by kernel_rfl) (by kernel_rfl) (by kernel_rfl) (fun _ _ _ h => h) (Or.inl ⟨by kernel_rfl,?yn2x1⟩) hHeld ?rn2x1
      case yn2x1 =>
       intro w' hSw
       obtain ⟨hSw0,hSw1,hSw2,hSw3,hSw4,hSw5,hSw6⟩:=hSw
       go_simp
       with_reducible rfl
      case rn2x1 =>
      simp only [List.set_cons_zero,List.set_cons_succ]
      refine take1 (i:=14) (v:=?vn2x2) rfl rfl (by kernel_rfl) (by kernel_rfl) (by kernel_rfl) (fun _ _ _ h => h) (Or.inl ⟨by kernel_rfl,?yn2x2⟩) hHeld ?rn2x2
      case yn2x2 =>
       intro w' hSw
       obtain ⟨hSw0,hSw1,hSw2,hSw3,hSw4,hSw5,hSw6⟩:=hSw
       go_simp
       with_reducible rfl
      case rn2x2 =>
      simp only [List.set_cons_zero,List.set_cons_succ]
      refine take1 (i:=15) (v:=?vn2x3) rfl rfl (by kernel_rfl) (by kernel_rfl) (by kernel_rfl) (fun _ _ _ h => h) (Or.inl ⟨by kernel_rfl,?yn2x3⟩) hHeld ?rn2x3
      case yn2x3 =>
       intro w' hSw
       obtain ⟨hSw0,hSw1,hSw2,hSw3,hSw4,hSw5,hSw6⟩:=hSw
       go_simp
       with_reducible rfl
      case rn2x3 =>
      simp only [List.set_cons_zero,List.set_cons_succ]
      refine wpAnyH_done (by kernel_rfl) ?_ _
      clear hHeld
      go_wp2_with fail
      go_ret2
      exact ⟨HK.out.1,0,0,rfl,.inr ⟨by first | exact HRF.out | rfl,0,HCC.out,.inr ⟨rfl,rfl,by (first | rw [Int.toNat_natCast] | rw [Int.toNat_zero] | rw [show ((i0:Int) + 1).toNat = i0 + 1 by omega]); unfold sideS; rw [if_neg (fun h => absurd h.1 (by omega)),if_neg (fun h => by have:=HG2.out; have h2:=h.2; rw [← Hag2.out] at h2; omega)]⟩⟩⟩
    ·
     have HIM:=hid' him
     have him':¬ (0:Int) < (m:Int):=by have:=HL.out; omega
     have him2:¬ 0 < m:=by omega
     clear him
     have hml:=HK.out.2.1.lt
     have c3':=HK.out.2.1.c3
     go_upto_region 9 with fail
     have KR:Kept W3 W3.drew:=(Kept.refl _).drew
     have sS:=hid' (fun (V:World) (K:Kept W3 V) => (show V.cell? ⟨p,3,none⟩ = some (.slice a2 m c') from (Below.cell K (p:=⟨p,3,none⟩) hml).trans c3'))
     clear c3' hml
     refine wp_region_held_drew (S:=fun w' => w'.cell? ⟨p,3,none⟩ = some (.slice a2 m c')) (by kernel_rfl) (sS.out _ KR) (fun hHeld => ?_)
     generalize hWd:W3.drew = W4 at KR hHeld ⊢
     clear hWd
     refine take1 (i:=0) (v:=?vn4x1) rfl rfl (by kernel_rfl) (by kernel_rfl) (by kernel_rfl) (fun _ _ _ h => h) (Or.inl ⟨by kernel_rfl,?yn4x1⟩) hHeld ?rn4x1
     case yn4x1 =>
      intro w' hSw
      have hSw0:=hSw
      go_simp
      with_reducible rfl
     case rn4x1 =>
     simp only [List.set_cons_zero,List.set_cons_succ]
     refine take1 (i:=1) (v:=?vn4x2) rfl rfl (by kernel_rfl) (by kernel_rfl) (by kernel_rfl) (fun _ _ _ h => h) (Or.inl ⟨by kernel_rfl,?yn4x2⟩) hHeld ?rn4x2
     case yn4x2 =>
      intro w' hSw
      have hSw0:=hSw
      go_simp
      with_reducible rfl
     case rn4x2 =>
     simp only [List.set_cons_zero,List.set_cons_succ]
     refine take1 (i:=2) (v:=?vn4x3) rfl rfl (by kernel_rfl) (by kernel_rfl) (by kernel_rfl) (fun _ _ _ h => h) (Or.inl ⟨by kernel_rfl,?yn4x3⟩) hHeld ?rn4x3
     case yn4x3 =>
      intro w' hSw
      have hSw0:=hSw
      go_simp
      with_reducible rfl
     case rn4x3 =>
     simp only [List.set_cons_zero,List.set_cons_succ]
     refine take1 (i:=3) (v:=?vn4x4) rfl rfl (by kernel_rfl) (by kernel_rfl) (by kernel_rfl) (fun _ _ _ h => h) (Or.inl ⟨by kernel_rfl,?yn4x4⟩) hHeld ?rn4x4
     case yn4x4 =>
      intro w' hSw
      have hSw0:=hSw
      go_simp
      with_reducible rfl
     case rn4x4 =>
     simp only [List.set_cons_zero,List.set_cons_succ]
     refine take1 (i:=4) (v:=?vn4x5) rfl rfl (by kernel_rfl) (by kernel_rfl) (by kernel_rfl) (fun _ _ _ h => h) (Or.inl ⟨by kernel_rfl,?yn4x5⟩) hHeld ?rn4x5
     case yn4x5 =>
      intro w' hSw
      have hSw0:=hSw
      go_simp
      with_reducible rfl
     case rn4x5 =>
     simp only [List.set_cons_zero,List.set_cons_succ]
     refine take1 (i:=5) (v:=?vn4x6) rfl rfl (by kernel_rfl) (by kernel_rfl) (by kernel_rfl) (fun _ _ _ h => h) (Or.inl ⟨by kernel_rfl,?yn4x6⟩) hHeld ?rn4x6
     case yn4x6 =>
      intro w' hSw
      have hSw0:=hSw
      go_simp
      with_reducible rfl
     case rn4x6 =>
     simp only [List.set_cons_zero,List.set_cons_succ]
     refine take1 (i:=6) (v:=undef) rfl rfl (by kernel_rfl) (by kernel_rfl) (by kernel_rfl) (fun _ _ _ h => h) (Or.inr ⟨by kernel_rfl,rfl⟩) hHeld ?rn4x7
     case rn4x7 =>
     simp only [List.set_cons_zero,List.set_cons_succ]
     refine take1 (i:=7) (v:=undef) rfl rfl (by kernel_rfl) (by kernel_rfl) (by kernel_rfl) (fun _ _ _ h => h) (Or.inr ⟨by kernel_rfl,rfl⟩) hHeld ?rn4x8
     case rn4x8 =>
     simp only [List.set_cons_zero,List.set_cons_succ]
     refine take1 (i:=8) (v:=undef) rfl rfl (by kernel_rfl) (by kernel_rfl) (by kernel_rfl) (fun _ _ _ h => h) (Or.inr ⟨by kernel_rfl,rfl⟩) hHeld ?rn4x9
     case rn4x9 =>
     simp only [List.set_cons_zero,List.set_cons_succ]
     refine take1 (i:=9) (v:=undef) rfl rfl (by kernel_rfl) (by kernel_rfl) (by kernel_rfl) (fun _ _ _ h => h) (Or.inr ⟨by kernel_rfl,rfl⟩) hHeld ?rn4x10
     case rn4x10 =>
     simp only [List.set_cons_zero,List.set_cons_succ]
     refine take1 (i:=10) (v:=undef) rfl rfl (by kernel_rfl) (by kernel_rfl) (by kernel_rfl) (fun _ _ _ h => h) (Or.inr ⟨by kernel_rfl,rfl⟩) hHeld ?rn4x11
     case rn4x11 =>
     simp only [List.set_cons_zero,List.set_cons_succ]
     refine take1 (i:=11) (v:=undef) rfl rfl (by kernel_rfl) (by kernel_rfl) (by kernel_rfl) (fun _ _ _ h => h) (Or.inr ⟨by kernel_rfl,rfl⟩) hHeld ?rn4x12
     case rn4x12 =>
     simp only [List.set_cons_zero,List.set_cons_succ]
     refine take1 (i:=12) (v:=undef) rfl rfl (by kernel_rfl) (by kernel_rfl) (by kernel_rfl) (fun _ _ _ h => h) (Or.inr ⟨by kernel_rfl,rfl⟩) hHeld ?rn4x13
     case rn4x13 =>
     simp only [List.set_cons_zero,List.set_cons_succ]
     refine take1 (i:=13) (v:=undef) rfl rfl (by kernel_rfl) (by kernel_rfl) (by kernel_rfl) (fun _ _ _ h => h) (Or.inr ⟨by kernel_rfl,rfl⟩) hHeld ?rn4x14
     case rn4x14 =>
     simp only [List.set_cons_zero,List.set_cons_succ]
     refine take1 (i:=14) (v:=?vn4x15) rfl rfl (by kernel_rfl) (by kernel_rfl) (by kernel_rfl) (fun _ _ _ h => h) (Or.inl ⟨by kernel_rfl,?yn4x15⟩) hHeld ?rn4x15
     case yn4x15 =>
      intro w' hSw
      have hSw0:=hSw
      go_simp
      with_reducible rfl
     case rn4x15 =>
     simp only [List.set_cons_zero,List.set_cons_succ]
     refine take1 (i:=15) (v:=?vn4x16) rfl rfl (by kernel_rfl) (by kernel_rfl) (by kernel_rfl) (fun _ _ _ h => h) (Or.inl ⟨by kernel_rfl,?yn4x16⟩) hHeld ?rn4x16
     case yn4x16 =>
      intro w' hSw
      have hSw0:=hSw
      go_simp
      with_reducible rfl
     case rn4x16 =>
     simp only [List.set_cons_zero,List.set_cons_succ]
     refine wpAnyH_done (by kernel_rfl) ?_ _
     have HK:=hid' (And.intro (HK.out.1.trans KR) (And.intro (HK.out.2.1.kept KR) (HK.out.2.2.kept KR)))
     clear KR sS hHeld
     go_wp2_with fail
     go_ret2
     exact ⟨HK.out.1,0,0,rfl,.inr ⟨by first | exact HRF.out | rfl,0,HCC.out,.inr ⟨rfl,rfl,by (first | rw [Int.toNat_natCast] | rw [Int.toNat_zero] | rw [show ((i0:Int) + 1).toNat = i0 + 1 by omega]); unfold sideS; rw [if_neg (fun h => absurd h.1 (by omega)),if_neg (fun h => HIM.out h.1)]⟩⟩⟩
   ·
    obtain ⟨i0,rfl⟩:∃ i0,i = i0 + 1:=⟨i - 1,by omega⟩
    have ec:((i0 + 1:Nat):Int) = (i0:Int) + 1:=by omega
    rw [ec]
    have hi1:(0:Int) < (i0:Int) + 1:=by omega
    have hi2:(i0:Int) + 1 - 1 = (i0:Int):=by omega
    have hi3:IntKind.i64.wrap (i0:Int) = (i0:Int):=by rw [IntKind.wrap_i64]; omega
    have hi5:(i0:Int) < (m:Int):=by have:=HL.out; omega
    have hi6:((i0:Int) + 1).toNat = i0 + 1:=by omega
    have hi7:(0:Int)≤(i0:Int) + 1:=by omega
    clear hi0 ec
    obtain ⟨ao',cap',hv,hx⟩:=HS.out.2.1.kept HK.out.1
    simp only [Value.slice.injEq] at hv
    obtain ⟨rfl,hq',rfl⟩:=hv
    obtain ⟨b,off,rfl,hb,hc⟩:=hx (by have:=HL.out; omega)
    obtain ⟨d0,d1⟩:=hc (i0) (by have:=HL.out; omega)
    have ok1:okN (vs.getD (i0) (0,0)).1 (vs.getD (i0) (0,0)).2 = true:=HOA.out.2.1 _ (by
     rw [List.getD_eq_getElem?_getD,List.getElem?_eq_getElem (by have:=HL.out; omega)]
     exact List.getElem_mem (by have:=HL.out; omega))
    obtain ⟨x,hX⟩:∃ x,x = vs.getD (i0) (0,0):=⟨_,rfl⟩
    rw [← hX] at d0 d1 ok1
    have HX:=hid' hX
    obtain ⟨x0,x1⟩:=x
    dsimp only at d0 d1 ok1
    have hu:=HK.out.2.2
    have hml:=HK.out.2.1.lt
    have c3':=HK.out.2.1.c3
    have hul:=hu.lt
    clear hq' hx hc hX
    go_upto_region 7 with fail
    have KR:Kept w2 w2.drew:=(Kept.refl _).drew
    have sS:=hid' (fun (V:World) (K:Kept w2 V) => (show V.cell? ⟨p,3,none⟩ = some (.slice (some ⟨b,off,none⟩) m c')∧V.cell? ⟨b,off + (i0) * 2,none⟩ = some (.int .i64 x0)∧V.cell? ⟨b,off + (i0) * 2 + 1,none⟩ = some (.int .i64 x1)∧V.cell? ⟨q,0,none⟩ = some (.bool sg)∧V.cell? ⟨q,1,none⟩ = some (.slice b1 k1 c1)∧V.cell? ⟨q,2,none⟩ = some (.bool nA)∧V.cell? ⟨q,3,none⟩ = some (.slice b2 k2 c2) from ⟨(Below.cell K (p:=⟨p,3,none⟩) hml).trans c3',(Below.cell K (p:=⟨b,off + (i0) * 2,none⟩) hb).trans d0,(Below.cell K (p:=⟨b,off + (i0) * 2 + 1,none⟩) hb).trans d1,(Below.cell K (p:=⟨q,0,none⟩) hul).trans hu.c0,(Below.cell K (p:=⟨q,1,none⟩) hul).trans hu.c1,(Below.cell K (p:=⟨q,2,none⟩) hul).trans hu.c2,(Below.cell K (p:=⟨q,3,none⟩) hul).trans hu.c3⟩))
    clear c3' d0 d1 hb hu hml hul
    refine wp_region_held_drew (S:=fun w' => w'.cell? ⟨p,3,none⟩ = some (.slice (some ⟨b,off,none⟩) m c')∧w'.cell? ⟨b,off + (i0) * 2,none⟩ = some (.int .i64 x0)∧w'.cell? ⟨b,off + (i0) * 2 + 1,none⟩ = some (.int .i64 x1)∧w'.cell? ⟨q,0,none⟩ = some (.bool sg)∧w'.cell? ⟨q,1,none⟩ = some (.slice b1 k1 c1)∧w'.cell? ⟨q,2,none⟩ = some (.bool nA)∧w'.cell? ⟨q,3,none⟩ = some (.slice b2 k2 c2)) (by kernel_rfl) (sS.out _ KR) (fun hHeld => ?_)
    generalize w2.drew = Wd at KR hHeld ⊢
    refine take1 (i:=0) (v:=?vn12x1) rfl rfl (by kernel_rfl) (by kernel_rfl) (by kernel_rfl) (fun _ _ _ h => h) (Or.inl ⟨by kernel_rfl,?yn12x1⟩) hHeld ?rn12x1
    case yn12x1 =>
     intro w' hSw
     obtain ⟨hSw0,hSw1,hSw2,hSw3,hSw4,hSw5,hSw6⟩:=hSw
     go_simp
     with_reducible rfl
    case rn12x1 =>
    simp only [List.set_cons_zero,List.set_cons_succ]
    refine take1 (i:=1) (v:=?vn12x2) rfl rfl (by kernel_rfl) (by kernel_rfl) (by kernel_rfl) (fun _ _ _ h => h) (Or.inl ⟨by kernel_rfl,?yn12x2⟩) hHeld ?rn12x2
    case yn12x2 =>
     intro w' hSw
     obtain ⟨hSw0,hSw1,hSw2,hSw3,hSw4,hSw5,hSw6⟩:=hSw
     go_simp
     with_reducible rfl
    case rn12x2 =>
    simp only [List.set_cons_zero,List.set_cons_succ]
    refine take1 (i:=2) (v:=?vn12x3) rfl rfl (by kernel_rfl) (by kernel_rfl) (by kernel_rfl) (fun _ _ _ h => h) (Or.inl ⟨by kernel_rfl,?yn12x3⟩) hHeld ?rn12x3
    case yn12x3 =>
     intro w' hSw
     obtain ⟨hSw0,hSw1,hSw2,hSw3,hSw4,hSw5,hSw6⟩:=hSw
     go_simp
     with_reducible rfl
    case rn12x3 =>
    simp only [List.set_cons_zero,List.set_cons_succ]
    refine take1 (i:=3) (v:=?vn12x4) rfl rfl (by kernel_rfl) (by kernel_rfl) (by kernel_rfl) (fun _ _ _ h => h) (Or.inl ⟨by kernel_rfl,?yn12x4⟩) hHeld ?rn12x4
    case yn12x4 =>
     intro w' hSw
     obtain ⟨hSw0,hSw1,hSw2,hSw3,hSw4,hSw5,hSw6⟩:=hSw
     go_simp
     with_reducible rfl
    case rn12x4 =>
    simp only [List.set_cons_zero,List.set_cons_succ]
    refine take1 (i:=4) (v:=?vn12x5) rfl rfl (by kernel_rfl) (by kernel_rfl) (by kernel_rfl) (fun _ _ _ h => h) (Or.inl ⟨by kernel_rfl,?yn12x5⟩) hHeld ?rn12x5
    case yn12x5 =>
     intro w' hSw
     obtain ⟨hSw0,hSw1,hSw2,hSw3,hSw4,hSw5,hSw6⟩:=hSw
     go_simp
     with_reducible rfl
    case rn12x5 =>
    simp only [List.set_cons_zero,List.set_cons_succ]
    refine take1 (i:=5) (v:=?vn12x6) rfl rfl (by kernel_rfl) (by kernel_rfl) (by kernel_rfl) (fun _ _ _ h => h) (Or.inl ⟨by kernel_rfl,?yn12x6⟩) hHeld ?rn12x6
    case yn12x6 =>
     intro w' hSw
     obtain ⟨hSw0,hSw1,hSw2,hSw3,hSw4,hSw5,hSw6⟩:=hSw
     go_simp
     with_reducible rfl
    case rn12x6 =>
    simp only [List.set_cons_zero,List.set_cons_succ]
    refine take1 (i:=6) (v:=?vn12x7) rfl rfl (by kernel_rfl) (by kernel_rfl) (by kernel_rfl) (fun _ _ _ h => h) (Or.inl ⟨by kernel_rfl,?yn12x7⟩) hHeld ?rn12x7
    case yn12x7 =>
     intro w' hSw
     obtain ⟨hSw0,hSw1,hSw2,hSw3,hSw4,hSw5,hSw6⟩:=hSw
     go_simp
     with_reducible rfl
    case rn12x7 =>
    simp only [List.set_cons_zero,List.set_cons_succ]
    refine take1 (i:=7) (v:=?vn12x8) rfl rfl (by kernel_rfl) (by kernel_rfl) (by kernel_rfl) (fun _ _ _ h => h) (Or.inl ⟨by kernel_rfl,?yn12x8⟩) hHeld ?rn12x8
    case yn12x8 =>
     intro w' hSw
     obtain ⟨hSw0,hSw1,hSw2,hSw3,hSw4,hSw5,hSw6⟩:=hSw
     go_simp
     with_reducible rfl
    case rn12x8 =>
    simp only [List.set_cons_zero,List.set_cons_succ]
    refine take1 (i:=8) (v:=?vn12x9) rfl rfl (by kernel_rfl) (by kernel_rfl) (by kernel_rfl) (fun _ _ _ h => h) (Or.inl ⟨by kernel_rfl,?yn12x9⟩) hHeld ?rn12x9
    case yn12x9 =>
     intro w' hSw
     obtain ⟨hSw0,hSw1,hSw2,hSw3,hSw4,hSw5,hSw6⟩:=hSw
     go_simp
     with_reducible rfl
    case rn12x9 =>
    simp only [List.set_cons_zero,List.set_cons_succ]
    refine take1 (i:=9) (v:=?vn12x10) rfl rfl (by kernel_rfl) (by kernel_rfl) (by kernel_rfl) (fun _ _ _ h => h) (Or.inl ⟨by kernel_rfl,?yn12x10⟩) hHeld ?rn12x10
    case yn12x10 =>
     intro w' hSw
     obtain ⟨hSw0,hSw1,hSw2,hSw3,hSw4,hSw5,hSw6⟩:=hSw
     go_simp
     with_reducible rfl
    case rn12x10 =>
    simp only [List.set_cons_zero,List.set_cons_succ]
    refine wpAnyH_ready (rs:=[10]) (by kernel_rfl) (by simp) ?_
    refine AllReadyH.cons rfl (fun K hK => ?_) AllReadyH.nil
    go_simp
    refine (against_any sg nA b1 b2 k1 c1 k2 c2 an ad x0 x1 _ (HS.out.2.2.1.kept (HK.out.1.trans KR)) (HS.out.2.2.2.1.kept (HK.out.1.trans KR)) HR.out ok1).mono ?_
    rintro e W3 ⟨hkq,rfl⟩
    obtain ⟨ag1,hag⟩:∃ ag,ag = agn (M.int sg an) (M.val ad) (x0,x1):=⟨_,rfl⟩
    rw [← hag]
    have Hag1:=hid' (show ag1 = agn (M.int sg an) (M.val ad) (vs.getD (i0) (0,0)) by rw [hag,HX.out])
    have KR:=KR.trans hkq
    refine hK.out _ _ (sS.out _ KR) (fun hHeld => ?_)
    have HK:=hid' (And.intro (HK.out.1.trans KR) (And.intro (HK.out.2.1.kept KR) (HK.out.2.2.kept KR)))
    clear hK K hkq hag ok1 HX KR sS
    by_cases g1:ag1 < 0
    ·
     have HG1:=hid' g1
     clear hi1 hi2 hi3 hi5 hi6 hi7
     refine take1 (i:=11) (v:=?vn6x1) rfl rfl (by kernel_rfl) (by kernel_rfl) (by kernel_rfl) (fun _ _ _ h => h) (Or.inl ⟨by kernel_rfl,?yn6x1⟩) hHeld ?rn6x1
     case yn6x1 =>
      intro w' hSw
      obtain ⟨hSw0,hSw1,hSw2,hSw3,hSw4,hSw5,hSw6⟩:=hSw
      go_simp
      with_reducible rfl
     case rn6x1 =>
     simp only [List.set_cons_zero,List.set_cons_succ]
     refine take1 (i:=12) (v:=?vn6x2) rfl rfl (by kernel_rfl) (by kernel_rfl) (by kernel_rfl) (fun _ _ _ h => h) (Or.inl ⟨by kernel_rfl,?yn6x2⟩) hHeld ?rn6x2
     case yn6x2 =>
      intro w' hSw
      obtain ⟨hSw0,hSw1,hSw2,hSw3,hSw4,hSw5,hSw6⟩:=hSw
      go_simp
      with_reducible rfl
     case rn6x2 =>
     simp only [List.set_cons_zero,List.set_cons_succ]
     refine take1 (i:=13) (v:=?vn6x3) rfl rfl (by kernel_rfl) (by kernel_rfl) (by kernel_rfl) (fun _ _ _ h => h) (Or.inl ⟨by kernel_rfl,?yn6x3⟩) hHeld ?rn6x3
     case yn6x3 =>
      intro w' hSw
      obtain ⟨hSw0,hSw1,hSw2,hSw3,hSw4,hSw5,hSw6⟩:=hSw
      go_simp
      with_reducible rfl
     case rn6x3 =>
     simp only [List.set_cons_zero,List.set_cons_succ]
     refine wpAnyH_done (by kernel_rfl) ?_ _
     clear hHeld
     go_wp2_with fail
     go_ret2
     exact ⟨HK.out.1,-1,0,rfl,.inr ⟨by first | exact HRF.out | rfl,0,HCC.out,.inr ⟨rfl,rfl,by (first | rw [Int.toNat_natCast] | rw [Int.toNat_zero] | rw [show ((i0:Int) + 1).toNat = i0 + 1 by omega]); unfold sideS; rw [if_pos ⟨Nat.succ_pos _,by rw [Nat.add_sub_cancel,← Hag1.out]; exact HG1.out⟩]⟩⟩⟩
    ·
     have HG1:=hid' g1
     refine take1 (i:=11) (v:=?vn7x1) rfl rfl (by kernel_rfl) (by kernel_rfl) (by kernel_rfl) (fun _ _ _ h => h) (Or.inl ⟨by kernel_rfl,?yn7x1⟩) hHeld ?rn7x1
     case yn7x1 =>
      intro w' hSw
      obtain ⟨hSw0,hSw1,hSw2,hSw3,hSw4,hSw5,hSw6⟩:=hSw
      go_simp
      with_reducible rfl
     case rn7x1 =>
     simp only [List.set_cons_zero,List.set_cons_succ]
     refine take1 (i:=12) (v:=?vn7x2) rfl rfl (by kernel_rfl) (by kernel_rfl) (by kernel_rfl) (fun _ _ _ h => h) (Or.inl ⟨by kernel_rfl,?yn7x2⟩) hHeld ?rn7x2
     case yn7x2 =>
      intro w' hSw
      obtain ⟨hSw0,hSw1,hSw2,hSw3,hSw4,hSw5,hSw6⟩:=hSw
      go_simp
      with_reducible rfl
     case rn7x2 =>
     simp only [List.set_cons_zero,List.set_cons_succ]
     refine take1 (i:=13) (v:=?vn7x3) rfl rfl (by kernel_rfl) (by kernel_rfl) (by kernel_rfl) (fun _ _ _ h => h) (Or.inl ⟨by kernel_rfl,?yn7x3⟩) hHeld ?rn7x3
     case yn7x3 =>
      intro w' hSw
      obtain ⟨hSw0,hSw1,hSw2,hSw3,hSw4,hSw5,hSw6⟩:=hSw
      go_simp
      with_reducible rfl
     case rn7x3 =>
     simp only [List.set_cons_zero,List.set_cons_succ]
     refine wpAnyH_done (by kernel_rfl) ?_ _
     clear hHeld
     by_cases him:i0 + 1 < vs.length
     ·
      have HIM:=hid' him
      have him':(i0:Int) + 1 < (m:Int):=by have:=HL.out; omega
      clear him
      obtain ⟨ao',cap',hv,hx⟩:=HS.out.2.1.kept HK.out.1
      simp only [Value.slice.injEq] at hv
      obtain ⟨rfl,hq',rfl⟩:=hv
      obtain ⟨b',off',hbo,hb,hc⟩:=hx (by have:=HL.out; omega)
      simp only [Option.some.injEq,Addr.mk.injEq,and_true] at hbo
      obtain ⟨rfl,rfl⟩:=hbo
      obtain ⟨d0,d1⟩:=hc (i0 + 1) (by have:=HL.out; omega)
      have ok1:okN (vs.getD (i0 + 1) (0,0)).1 (vs.getD (i0 + 1) (0,0)).2 = true:=HOA.out.2.1 _ (by
       rw [List.getD_eq_getElem?_getD,List.getElem?_eq_getElem (by have:=HL.out; omega)]
       exact List.getElem_mem (by have:=HL.out; omega))
      obtain ⟨x,hX⟩:∃ x,x = vs.getD (i0 + 1) (0,0):=⟨_,rfl⟩
      rw [← hX] at d0 d1 ok1
      have HX:=hid' hX
      obtain ⟨x0,x1⟩:=x
      dsimp only at d0 d1 ok1
      have hu:=HK.out.2.2
      have hml:=HK.out.2.1.lt
      have c3':=HK.out.2.1.c3
      have hul:=hu.lt
      clear hq' hx hc hX
      go_upto_region 9 with fail
      have KR:Kept W3 W3.drew:=(Kept.refl _).drew
      have sS:=hid' (fun (V:World) (K:Kept W3 V) => (show V.cell? ⟨p,3,none⟩ = some (.slice (some ⟨b,off,none⟩) m c')∧V.cell? ⟨b,off + (i0 + 1) * 2,none⟩ = some (.int .i64 x0)∧V.cell? ⟨b,off + (i0 + 1) * 2 + 1,none⟩ = some (.int .i64 x1)∧V.cell? ⟨q,0,none⟩ = some (.bool sg)∧V.cell? ⟨q,1,none⟩ = some (.slice b1 k1 c1)∧V.cell? ⟨q,2,none⟩ = some (.bool nA)∧V.cell? ⟨q,3,none⟩ = some (.slice b2 k2 c2) from ⟨(Below.cell K (p:=⟨p,3,none⟩) hml).trans c3',(Below.cell K (p:=⟨b,off + (i0 + 1) * 2,none⟩) hb).trans d0,(Below.cell K (p:=⟨b,off + (i0 + 1) * 2 + 1,none⟩) hb).trans d1,(Below.cell K (p:=⟨q,0,none⟩) hul).trans hu.c0,(Below.cell K (p:=⟨q,1,none⟩) hul).trans hu.c1,(Below.cell K (p:=⟨q,2,none⟩) hul).trans hu.c2,(Below.cell K (p:=⟨q,3,none⟩) hul).trans hu.c3⟩))
      clear c3' d0 d1 hb hu hml hul
      refine wp_region_held_drew (S:=fun w' => w'.cell? ⟨p,3,none⟩ = some (.slice (some ⟨b,off,none⟩) m c')∧w'.cell? ⟨b,off + (i0 + 1) * 2,none⟩ = some (.int .i64 x0)∧w'.cell? ⟨b,off + (i0 + 1) * 2 + 1,none⟩ = some (.int .i64 x1)∧w'.cell? ⟨q,0,none⟩ = some (.bool sg)∧w'.cell? ⟨q,1,none⟩ = some (.slice b1 k1 c1)∧w'.cell? ⟨q,2,none⟩ = some (.bool nA)∧w'.cell? ⟨q,3,none⟩ = some (.slice b2 k2 c2)) (by kernel_rfl) (sS.out _ KR) (fun hHeld => ?_)
      generalize W3.drew = Wd at KR hHeld ⊢
      refine take1 (i:=0) (v:=?vn10x1) rfl rfl (by kernel_rfl) (by kernel_rfl) (by kernel_rfl) (fun _ _ _ h => h) (Or.inl ⟨by kernel_rfl,?yn10x1⟩) hHeld ?rn10x1
      case yn10x1 =>
       intro w' hSw
       obtain ⟨hSw0,hSw1,hSw2,hSw3,hSw4,hSw5,hSw6⟩:=hSw
       go_simp
       with_reducible rfl
      case rn10x1 =>
      simp only [List.set_cons_zero,List.set_cons_succ]
      refine take1 (i:=1) (v:=?vn10x2) rfl rfl (by kernel_rfl) (by kernel_rfl) (by kernel_rfl) (fun _ _ _ h => h) (Or.inl ⟨by kernel_rfl,?yn10x2⟩) hHeld ?rn10x2
      case yn10x2 =>
       intro w' hSw
       obtain ⟨hSw0,hSw1,hSw2,hSw3,hSw4,hSw5,hSw6⟩:=hSw
       go_simp
       with_reducible rfl
      case rn10x2 =>
      simp only [List.set_cons_zero,List.set_cons_succ]
      refine take1 (i:=2) (v:=?vn10x3) rfl rfl (by kernel_rfl) (by kernel_rfl) (by kernel_rfl) (fun _ _ _ h => h) (Or.inl ⟨by kernel_rfl,?yn10x3⟩) hHeld ?rn10x3
      case yn10x3 =>
       intro w' hSw
       obtain ⟨hSw0,hSw1,hSw2,hSw3,hSw4,hSw5,hSw6⟩:=hSw
       go_simp
       with_reducible rfl
      case rn10x3 =>
      simp only [List.set_cons_zero,List.set_cons_succ]
      refine take1 (i:=3) (v:=?vn10x4) rfl rfl (by kernel_rfl) (by kernel_rfl) (by kernel_rfl) (fun _ _ _ h => h) (Or.inl ⟨by kernel_rfl,?yn10x4⟩) hHeld ?rn10x4
      case yn10x4 =>
       intro w' hSw
       obtain ⟨hSw0,hSw1,hSw2,hSw3,hSw4,hSw5,hSw6⟩:=hSw
       go_simp
       with_reducible rfl
      case rn10x4 =>
      simp only [List.set_cons_zero,List.set_cons_succ]
      refine take1 (i:=4) (v:=?vn10x5) rfl rfl (by kernel_rfl) (by kernel_rfl) (by kernel_rfl) (fun _ _ _ h => h) (Or.inl ⟨by kernel_rfl,?yn10x5⟩) hHeld ?rn10x5
      case yn10x5 =>
       intro w' hSw
       obtain ⟨hSw0,hSw1,hSw2,hSw3,hSw4,hSw5,hSw6⟩:=hSw
       go_simp
       with_reducible rfl
      case rn10x5 =>
      simp only [List.set_cons_zero,List.set_cons_succ]
      refine take1 (i:=5) (v:=?vn10x6) rfl rfl (by kernel_rfl) (by kernel_rfl) (by kernel_rfl) (fun _ _ _ h => h) (Or.inl ⟨by kernel_rfl,?yn10x6⟩) hHeld ?rn10x6
      case yn10x6 =>
       intro w' hSw
       obtain ⟨hSw0,hSw1,hSw2,hSw3,hSw4,hSw5,hSw6⟩:=hSw
       go_simp
       with_reducible rfl
      case rn10x6 =>
      simp only [List.set_cons_zero,List.set_cons_succ]
      refine take1 (i:=6) (v:=?vn10x7) rfl rfl (by kernel_rfl) (by kernel_rfl) (by kernel_rfl) (fun _ _ _ h => h) (Or.inl ⟨by kernel_rfl,?yn10x7⟩) hHeld ?rn10x7
      case yn10x7 =>
       intro w' hSw
       obtain ⟨hSw0,hSw1,hSw2,hSw3,hSw4,hSw5,hSw6⟩:=hSw
       go_simp
       with_reducible rfl
      case rn10x7 =>
      simp only [List.set_cons_zero,List.set_cons_succ]
      refine take1 (i:=7) (v:=?vn10x8) rfl rfl (by kernel_rfl) (by kernel_rfl) (by kernel_rfl) (fun _ _ _ h => h) (Or.inl ⟨by kernel_rfl,?yn10x8⟩) hHeld ?rn10x8
      case yn10x8 =>
       intro w' hSw
       obtain ⟨hSw0,hSw1,hSw2,hSw3,hSw4,hSw5,hSw6⟩:=hSw
       go_simp
       with_reducible rfl
      case rn10x8 =>
      simp only [List.set_cons_zero,List.set_cons_succ]
      refine take1 (i:=8) (v:=?vn10x9) rfl rfl (by kernel_rfl) (by kernel_rfl) (by kernel_rfl) (fun _ _ _ h => h) (Or.inl ⟨by kernel_rfl,?yn10x9⟩) hHeld ?rn10x9
      case yn10x9 =>
       intro w' hSw
       obtain ⟨hSw0,hSw1,hSw2,hSw3,hSw4,hSw5,hSw6⟩:=hSw
       go_simp
       with_reducible rfl
      case rn10x9 =>
      simp only [List.set_cons_zero,List.set_cons_succ]
      refine take1 (i:=9) (v:=?vn10x10) rfl rfl (by kernel_rfl) (by kernel_rfl) (by kernel_rfl) (fun _ _ _ h => h) (Or.inl ⟨by kernel_rfl,?yn10x10⟩) hHeld ?rn10x10
      case yn10x10 =>
       intro w' hSw
       obtain ⟨hSw0,hSw1,hSw2,hSw3,hSw4,hSw5,hSw6⟩:=hSw
       go_simp
       with_reducible rfl
      case rn10x10 =>
      simp only [List.set_cons_zero,List.set_cons_succ]
      refine take1 (i:=10) (v:=?vn10x11) rfl rfl (by kernel_rfl) (by kernel_rfl) (by kernel_rfl) (fun _ _ _ h => h) (Or.inl ⟨by kernel_rfl,?yn10x11⟩) hHeld ?rn10x11
      case yn10x11 =>
       intro w' hSw
       obtain ⟨hSw0,hSw1,hSw2,hSw3,hSw4,hSw5,hSw6⟩:=hSw
       go_simp
       with_reducible rfl
      case rn10x11 =>
      simp only [List.set_cons_zero,List.set_cons_succ]
      refine take1 (i:=11) (v:=?vn10x12) rfl rfl (by kernel_rfl) (by kernel_rfl) (by kernel_rfl) (fun _ _ _ h => h) (Or.inl ⟨by kernel_rfl,?yn10x12⟩) hHeld ?rn10x12
      case yn10x12 =>
       intro w' hSw
       obtain ⟨hSw0,hSw1,hSw2,hSw3,hSw4,hSw5,hSw6⟩:=hSw
       go_simp
       with_reducible rfl
      case rn10x12 =>
      simp only [List.set_cons_zero,List.set_cons_succ]
      refine wpAnyH_ready (rs:=[12]) (by kernel_rfl) (by simp) ?_
      refine AllReadyH.cons rfl (fun K hK => ?_) AllReadyH.nil
      go_simp
      refine (against_any sg nA b1 b2 k1 c1 k2 c2 an ad x0 x1 _ (HS.out.2.2.1.kept (HK.out.1.trans KR)) (HS.out.2.2.2.1.kept (HK.out.1.trans KR)) HR.out ok1).mono ?_
      rintro e W4 ⟨hkq,rfl⟩
      obtain ⟨ag2,hag⟩:∃ ag,ag = agn (M.int sg an) (M.val ad) (x0,x1):=⟨_,rfl⟩
      rw [← hag]
      have Hag2:=hid' (show ag2 = agn (M.int sg an) (M.val ad) (vs.getD (i0 + 1) (0,0)) by rw [hag,HX.out])
      have KR:=KR.trans hkq
      refine hK.out _ _ (sS.out _ KR) (fun hHeld => ?_)
      have HK:=hid' (And.intro (HK.out.1.trans KR) (And.intro (HK.out.2.1.kept KR) (HK.out.2.2.kept KR)))
      clear hK K hkq hag ok1 HX KR sS
      by_cases g2:0 < ag2
      ·
       have HG2:=hid' g2
       refine take1 (i:=13) (v:=?vn8x1) rfl rfl (by kernel_rfl) (by kernel_rfl) (by kernel_rfl) (fun _ _ _ h => h) (Or.inl ⟨by kernel_rfl,?yn8x1⟩) hHeld ?rn8x1
       case yn8x1 =>
        intro w' hSw
        obtain ⟨hSw0,hSw1,hSw2,hSw3,hSw4,hSw5,hSw6⟩:=hSw
        go_simp
        with_reducible rfl
       case rn8x1 =>
       simp only [List.set_cons_zero,List.set_cons_succ]
       refine take1 (i:=14) (v:=?vn8x2) rfl rfl (by kernel_rfl) (by kernel_rfl) (by kernel_rfl) (fun _ _ _ h => h) (Or.inl ⟨by kernel_rfl,?yn8x2⟩) hHeld ?rn8x2
       case yn8x2 =>
        intro w' hSw
        obtain ⟨hSw0,hSw1,hSw2,hSw3,hSw4,hSw5,hSw6⟩:=hSw
        go_simp
        with_reducible rfl
       case rn8x2 =>
       simp only [List.set_cons_zero,List.set_cons_succ]
       refine take1 (i:=15) (v:=?vn8x3) rfl rfl (by kernel_rfl) (by kernel_rfl) (by kernel_rfl) (fun _ _ _ h => h) (Or.inl ⟨by kernel_rfl,?yn8x3⟩) hHeld ?rn8x3
       case yn8x3 =>
        intro w' hSw
        obtain ⟨hSw0,hSw1,hSw2,hSw3,hSw4,hSw5,hSw6⟩:=hSw
        go_simp
        with_reducible rfl
       case rn8x3 =>
       simp only [List.set_cons_zero,List.set_cons_succ]
       refine wpAnyH_done (by kernel_rfl) ?_ _
       clear hHeld
       go_wp2_with fail
       go_ret2
       exact ⟨HK.out.1,1,0,rfl,.inr ⟨by first | exact HRF.out | rfl,0,HCC.out,.inr ⟨rfl,rfl,by (first | rw [Int.toNat_natCast] | rw [Int.toNat_zero] | rw [show ((i0:Int) + 1).toNat = i0 + 1 by omega]); unfold sideS; rw [if_neg (fun h => by have:=HG1.out; have h2:=h.2; rw [Nat.add_sub_cancel,← Hag1.out] at h2; omega),if_pos ⟨HIM.out,by rw [← Hag2.out]; exact HG2.out⟩]⟩⟩⟩
      ·
       have HG2:=hid' g2
       refine take1 (i:=13) (v:=?vn9x1) rfl rfl (by kernel_rfl) (by kernel_rfl) (by kernel_rfl) (fun _ _ _ h => h) (Or.inl ⟨by kernel_rfl,?yn9x1⟩) hHeld ?rn9x1
       case yn9x1 =>
        intro w' hSw
        obtain ⟨hSw0,hSw1,hSw2,hSw3,hSw4,hSw5,hSw6⟩:=hSw
        go_simp
        with_reducible rfl
       case rn9x1 =>
       simp only [List.set_cons_zero,List.set_cons_succ]
       refine take1 (i:=14) (v:=?vn9x2) rfl rfl (by kernel_rfl) (by kernel_rfl) (by kernel_rfl) (fun _ _ _ h => h) (Or.inl ⟨by kernel_rfl,?yn9x2⟩) hHeld ?rn9x2
       case yn9x2 =>
        intro w' hSw
        obtain ⟨hSw0,hSw1,hSw2,hSw3,hSw4,hSw5,hSw6⟩:=hSw
        go_simp
        with_reducible rfl
       case rn9x2 =>
       simp only [List.set_cons_zero,List.set_cons_succ]
       refine take1 (i:=15) (v:=?vn9x3) rfl rfl (by kernel_rfl) (by kernel_rfl) (by kernel_rfl) (fun _ _ _ h => h) (Or.inl ⟨by kernel_rfl,?yn9x3⟩) hHeld ?rn9x3
       case yn9x3 =>
        intro w' hSw
        obtain ⟨hSw0,hSw1,hSw2,hSw3,hSw4,hSw5,hSw6⟩:=hSw
        go_simp
        with_reducible rfl
       case rn9x3 =>
       simp only [List.set_cons_zero,List.set_cons_succ]
       refine wpAnyH_done (by kernel_rfl) ?_ _
       clear hHeld
       go_wp2_with fail
       go_ret2
       exact ⟨HK.out.1,0,0,rfl,.inr ⟨by first | exact HRF.out | rfl,0,HCC.out,.inr ⟨rfl,rfl,by (first | rw [Int.toNat_natCast] | rw [Int.toNat_zero] | rw [show ((i0:Int) + 1).toNat = i0 + 1 by omega]); unfold sideS; rw [if_neg (fun h => by have:=HG1.out; have h2:=h.2; rw [Nat.add_sub_cancel,← Hag1.out] at h2; omega),if_neg (fun h => by have:=HG2.out; have h2:=h.2; rw [← Hag2.out] at h2; omega)]⟩⟩⟩
     ·
      have HIM:=hid' him
      have him':¬ (i0:Int) + 1 < (m:Int):=by have:=HL.out; omega
      clear him
      have hml:=HK.out.2.1.lt
      have c3':=HK.out.2.1.c3
      go_upto_region 9 with fail
      have KR:Kept W3 W3.drew:=(Kept.refl _).drew
      have sS:=hid' (fun (V:World) (K:Kept W3 V) => (show V.cell? ⟨p,3,none⟩ = some (.slice (some ⟨b,off,none⟩) m c') from (Below.cell K (p:=⟨p,3,none⟩) hml).trans c3'))
      clear c3' hml
      refine wp_region_held_drew (S:=fun w' => w'.cell? ⟨p,3,none⟩ = some (.slice (some ⟨b,off,none⟩) m c')) (by kernel_rfl) (sS.out _ KR) (fun hHeld => ?_)
      generalize hWd:W3.drew = W4 at KR hHeld ⊢
      clear hWd
      refine take1 (i:=0) (v:=?vn11x1) rfl rfl (by kernel_rfl) (by kernel_rfl) (by kernel_rfl) (fun _ _ _ h => h) (Or.inl ⟨by kernel_rfl,?yn11x1⟩) hHeld ?rn11x1
      case yn11x1 =>
       intro w' hSw
       have hSw0:=hSw
       go_simp
       with_reducible rfl
      case rn11x1 =>
      simp only [List.set_cons_zero,List.set_cons_succ]
      refine take1 (i:=1) (v:=?vn11x2) rfl rfl (by kernel_rfl) (by kernel_rfl) (by kernel_rfl) (fun _ _ _ h => h) (Or.inl ⟨by kernel_rfl,?yn11x2⟩) hHeld ?rn11x2
      case yn11x2 =>
       intro w' hSw
       have hSw0:=hSw
       go_simp
       with_reducible rfl
      case rn11x2 =>
      simp only [List.set_cons_zero,List.set_cons_succ]
      refine take1 (i:=2) (v:=?vn11x3) rfl rfl (by kernel_rfl) (by kernel_rfl) (by kernel_rfl) (fun _ _ _ h => h) (Or.inl ⟨by kernel_rfl,?yn11x3⟩) hHeld ?rn11x3
      case yn11x3 =>
       intro w' hSw
       have hSw0:=hSw
       go_simp
       with_reducible rfl
      case rn11x3 =>
      simp only [List.set_cons_zero,List.set_cons_succ]
      refine take1 (i:=3) (v:=?vn11x4) rfl rfl (by kernel_rfl) (by kernel_rfl) (by kernel_rfl) (fun _ _ _ h => h) (Or.inl ⟨by kernel_rfl,?yn11x4⟩) hHeld ?rn11x4
      case yn11x4 =>
       intro w' hSw
       have hSw0:=hSw
       go_simp
       with_reducible rfl
      case rn11x4 =>
      simp only [List.set_cons_zero,List.set_cons_succ]
      refine take1 (i:=4) (v:=?vn11x5) rfl rfl (by kernel_rfl) (by kernel_rfl) (by kernel_rfl) (fun _ _ _ h => h) (Or.inl ⟨by kernel_rfl,?yn11x5⟩) hHeld ?rn11x5
      case yn11x5 =>
       intro w' hSw
       have hSw0:=hSw
       go_simp
       with_reducible rfl
      case rn11x5 =>
      simp only [List.set_cons_zero,List.set_cons_succ]
      refine take1 (i:=5) (v:=?vn11x6) rfl rfl (by kernel_rfl) (by kernel_rfl) (by kernel_rfl) (fun _ _ _ h => h) (Or.inl ⟨by kernel_rfl,?yn11x6⟩) hHeld ?rn11x6
      case yn11x6 =>
       intro w' hSw
       have hSw0:=hSw
       go_simp
       with_reducible rfl
      case rn11x6 =>
      simp only [List.set_cons_zero,List.set_cons_succ]
      refine take1 (i:=6) (v:=undef) rfl rfl (by kernel_rfl) (by kernel_rfl) (by kernel_rfl) (fun _ _ _ h => h) (Or.inr ⟨by kernel_rfl,rfl⟩) hHeld ?rn11x7
      case rn11x7 =>
      simp only [List.set_cons_zero,List.set_cons_succ]
      refine take1 (i:=7) (v:=undef) rfl rfl (by kernel_rfl) (by kernel_rfl) (by kernel_rfl) (fun _ _ _ h => h) (Or.inr ⟨by kernel_rfl,rfl⟩) hHeld ?rn11x8
      case rn11x8 =>
      simp only [List.set_cons_zero,List.set_cons_succ]
      refine take1 (i:=8) (v:=undef) rfl rfl (by kernel_rfl) (by kernel_rfl) (by kernel_rfl) (fun _ _ _ h => h) (Or.inr ⟨by kernel_rfl,rfl⟩) hHeld ?rn11x9
      case rn11x9 =>
      simp only [List.set_cons_zero,List.set_cons_succ]
      refine take1 (i:=9) (v:=undef) rfl rfl (by kernel_rfl) (by kernel_rfl) (by kernel_rfl) (fun _ _ _ h => h) (Or.inr ⟨by kernel_rfl,rfl⟩) hHeld ?rn11x10
      case rn11x10 =>
      simp only [List.set_cons_zero,List.set_cons_succ]
      refine take1 (i:=10) (v:=undef) rfl rfl (by kernel_rfl) (by kernel_rfl) (by kernel_rfl) (fun _ _ _ h => h) (Or.inr ⟨by kernel_rfl,rfl⟩) hHeld ?rn11x11
      case rn11x11 =>
      simp only [List.set_cons_zero,List.set_cons_succ]
      refine take1 (i:=11) (v:=undef) rfl rfl (by kernel_rfl) (by kernel_rfl) (by kernel_rfl) (fun _ _ _ h => h) (Or.inr ⟨by kernel_rfl,rfl⟩) hHeld ?rn11x12
      case rn11x12 =>
      simp only [List.set_cons_zero,List.set_cons_succ]
      refine take1 (i:=12) (v:=undef) rfl rfl (by kernel_rfl) (by kernel_rfl) (by kernel_rfl) (fun _ _ _ h => h) (Or.inr ⟨by kernel_rfl,rfl⟩) hHeld ?rn11x13
      case rn11x13 =>
      simp only [List.set_cons_zero,List.set_cons_succ]
      refine take1 (i:=13) (v:=undef) rfl rfl (by kernel_rfl) (by kernel_rfl) (by kernel_rfl) (fun _ _ _ h => h) (Or.inr ⟨by kernel_rfl,rfl⟩) hHeld ?rn11x14
      case rn11x14 =>
      simp only [List.set_cons_zero,List.set_cons_succ]
      refine take1 (i:=14) (v:=?vn11x15) rfl rfl (by kernel_rfl) (by kernel_rfl) (by kernel_rfl) (fun _ _ _ h => h) (Or.inl ⟨by kernel_rfl,?yn11x15⟩) hHeld ?rn11x15
      case yn11x15 =>
       intro w' hSw
       have hSw0:=hSw
       go_simp
       with_reducible rfl
      case rn11x15 =>
      simp only [List.set_cons_zero,List.set_cons_succ]
      refine take1 (i:=15) (v:=?vn11x16) rfl rfl (by kernel_rfl) (by kernel_rfl) (by kernel_rfl) (fun _ _ _ h => h) (Or.inl ⟨by kernel_rfl,?yn11x16⟩) hHeld ?rn11x16
      case yn11x16 =>
       intro w' hSw
       have hSw0:=hSw
       go_simp
       with_reducible rfl
      case rn11x16 =>
      simp only [List.set_cons_zero,List.set_cons_succ]
      refine wpAnyH_done (by kernel_rfl) ?_ _
      have HK:=hid' (And.intro (HK.out.1.trans KR) (And.intro (HK.out.2.1.kept KR) (HK.out.2.2.kept KR)))
      clear KR sS hHeld
      go_wp2_with fail
      go_ret2
      exact ⟨HK.out.1,0,0,rfl,.inr ⟨by first | exact HRF.out | rfl,0,HCC.out,.inr ⟨rfl,rfl,by (first | rw [Int.toNat_natCast] | rw [Int.toNat_zero] | rw [show ((i0:Int) + 1).toNat = i0 + 1 by omega]); unfold sideS; rw [if_neg (fun h => by have:=HG1.out; have h2:=h.2; rw [Nat.add_sub_cancel,← Hag1.out] at h2; omega),if_neg (fun h => HIM.out h.1)]⟩⟩⟩
  ·
   clear him hr1
   go_wp2_with fail
   go_ret2
   exact ⟨HK.out.1,0,cc,rfl,.inr ⟨HRF.out,cc,HCC.out,.inl ⟨hc0,rfl,rfl⟩⟩⟩
 ·
  go_wp2_with fail
  go_ret2
  exact ⟨HK.out.1,0,rf,rfl,.inl ⟨hr0,rfl,rfl⟩⟩
end V
end Go.Proofs.YthfbfbfambbkaaaGreatDoor

namespace Go.Proofs.YthfbfbfambbkaaaGreatDoor
open Go.RowKit
namespace V
open Q (okN okN_bd Scl RQ hid' Row3 Row2)
theorem refM_zero' {s:List UInt8} {k:Int} {gs vs:List (Int × Int)} {i:Int} (h:refM s k gs vs i = 0):okM s k gs vs = true∧0≤i∧i < gs.length:=by
 unfold refM at h
 split at h
 ·
  next h1 =>
  split at h
  ·
   omega
  ·
   next h2 => exact ⟨h1,by omega,by omega⟩
 ·
  omega
theorem fits_len' {k:Int} {n m:Nat} (h:fitsM k n m = true):n = m + 1∧n≤4:=by
 unfold fitsM at h
 split at h
 ·
  simpa using h
 ·
  split at h
  ·
   simp at h; omega
  ·
   cases h
theorem at_ok {l:List (Int × Int)} (h:∀ q ∈ l,okN q.1 q.2 = true) {i:Nat} (hi:i < l.length):okN (l.getD i (0,0)).1 (l.getD i (0,0)).2 = true:=h _ (by
 rw [List.getD_eq_getElem?_getD,List.getElem?_eq_getElem hi]
 exact List.getElem_mem hi)
def PartIs (B:Nat) (w':World) (e:Ending) (rf kd:Int) (gs vs:List (Int × Int)) (i:Int):Prop :=
 (¬ rf = 0∧e = .returned (.tuple #[.agg #[.bool false,.slice none 0 0,.bool false,.slice none 0 0],.agg #[.bool false,.slice none 0 0,.bool false,.slice none 0 0],.int .i64 rf])) ∨ (rf = 0∧∃ u v,e = .returned (.tuple #[u,v,.int .i64 0])∧RT B w' u (U (gs.getD i.toNat (0,0)).1 (gs.getD i.toNat (0,0)).2) (10 ^ 18)∧RT B w' v (ownK kd gs vs i.toNat) (10 ^ 54))
set_option maxRecDepth 100000 in
set_option maxHeartbeats 8000000 in
theorem partM_any (s:ByteArray) (kd:Int) (a1 a2:Option Addr) (n c m c':Nat) (gs vs:List (Int × Int)) (i':Int) (w:World) (hs:s.size≤9223372036854775807) (h1:NSl w (.slice a1 n c) gs) (h2:NSl w (.slice a2 m c') vs) (hn:n≤4611686018427387903) (hm:m≤4611686018427387903) :
  Calls Tryz.prog 9 #[.agg #[.string s,.int .u8 kd,.slice a1 n c,.slice a2 m c'],.int .i64 i'] w fun e w' => Kept w w'∧PartIs w.heap.size w' e (refM s.data.toList kd gs vs i') kd gs vs i':=by
 have HS:=hid' (And.intro h1 h2)
 clear h1 h2
 obtain ⟨rf,hrf⟩:∃ rf,rf = refM s.data.toList kd gs vs i':=⟨_,rfl⟩
 rw [← hrf]
 have HRE:=hid' hrf
 clear hrf
 go_enter Tryz.func9,Tryz.ntmps9
 go_upto_region 1 with fail
 have kz1:=(Kept.refl (w.alloc (.cells #[.string s,.int .u8 kd,.slice a1 n c,.slice a2 m c'] 24))).alloc (.cells #[.bool false,.slice none 0 0,.bool false,.slice none 0 0] 29)
 have kz2:=(Kept.refl ((w.alloc (.cells #[.string s,.int .u8 kd,.slice a1 n c,.slice a2 m c'] 24)).alloc (.cells #[.bool false,.slice none 0 0,.bool false,.slice none 0 0] 29))).alloc (.cells #[.bool false,.slice none 0 0,.bool false,.slice none 0 0] 29)
 have hM:=(Row4.alloc 24 w (.string s) (.int .u8 kd) (.slice a1 n c) (.slice a2 m c')).kept (kz1.trans kz2)
 have hZ4:=(F.RRow.alloc (w.alloc (.cells #[.string s,.int .u8 kd,.slice a1 n c,.slice a2 m c'] 24)) (.bool false) (.slice none 0 0) (.bool false) (.slice none 0 0)).kept kz2
 have hZ5:=F.RRow.alloc ((w.alloc (.cells #[.string s,.int .u8 kd,.slice a1 n c,.slice a2 m c'] 24)).alloc (.cells #[.bool false,.slice none 0 0,.bool false,.slice none 0 0] 29)) (.bool false) (.slice none 0 0) (.bool false) (.slice none 0 0)
 have hK:=((Kept.refl w).alloc (.cells #[.string s,.int .u8 kd,.slice a1 n c,.slice a2 m c'] 24)).trans (kz1.trans kz2)
 rw [World.size_alloc] at hZ4
 rw [World.size_alloc,World.size_alloc] at hZ5
 clear kz1 kz2
 generalize ((w.alloc (.cells #[.string s,.int .u8 kd,.slice a1 n c,.slice a2 m c'] 24)).alloc (.cells #[.bool false,.slice none 0 0,.bool false,.slice none 0 0] 29)).alloc (.cells #[.bool false,.slice none 0 0,.bool false,.slice none 0 0] 29) = W at hM hZ4 hZ5 hK ⊢
 obtain ⟨q5,hq5⟩:∃ q,q = w.heap.size + 1 + 1:=⟨_,rfl⟩
 rw [← hq5] at hZ5 ⊢
 obtain ⟨q4,hq4⟩:∃ q,q = w.heap.size + 1:=⟨_,rfl⟩
 rw [← hq4] at hZ4 ⊢
 obtain ⟨p,hp⟩:∃ q,q = w.heap.size:=⟨_,rfl⟩
 rw [← hp] at hM ⊢
 have HQ4:=hid' (show w.heap.size≤q4 by omega)
 have HQ5:=hid' (show w.heap.size≤q5 by omega)
 have HN45:=hid' (show q5 ≠ q4∧p ≠ q4∧p ≠ q5 by omega)
 have n45:¬ q5 = q4:=by omega
 have n54:¬ q4 = q5:=by omega
 clear hq5 hq4 hp
 have q0:=hM.c0
 have q1:=hM.c1
 have q2:=hM.c2
 have q3:=hM.c3
 have HK:=hid' (And.intro hK (And.intro hM (And.intro hZ4 hZ5)))
 clear hK hM hZ4 hZ5
 go_wp2_with fail
 refine (refusalM_any s kd a1 a2 n c m c' gs vs i' _ hs (HS.out.1.kept HK.out.1) (HS.out.2.kept HK.out.1) hn hm).mono ?_
 rintro e w1 ⟨hk1,rfl⟩
 have HK:=hid' (And.intro (HK.out.1.trans hk1) (And.intro (HK.out.2.1.kept hk1) (And.intro (HK.out.2.2.1.kept hk1) (HK.out.2.2.2.kept hk1))))
 clear hk1 q0 q1 q2 q3
 rw [← HRE.out]
 have HOK:=hid' (fun (h:rf = 0) => refM_zero' (s:=s.data.toList) (k:=kd) (gs:=gs) (vs:=vs) (i:=i') (by rw [← HRE.out]; exact h))
 clear HRE
 by_cases hr0:rf = 0
 ·
  have HOA:=hid' (okM_all (HOK.out hr0).1)
  have hi:=(HOK.out hr0).2
  have HRF:=hid' hr0
  clear HOK
  obtain ⟨i,rfl⟩:∃ i:Nat,i' = (i:Int):=⟨i'.toNat,by omega⟩
  have HL:=hid' (show m = vs.length∧n = gs.length∧(n = m + 1∧n≤4)∧i < n by
   have e1:=HS.out.1.len
   have e2:=HS.out.2.len
   have e3:=fits_len' HOA.out.2.2.2
   exact ⟨e2,e1,by omega,by omega⟩)
  have HG:=hid' (And.intro (fun j (hj:j < n) => at_ok HOA.out.1 (i:=j) (by have:=HL.out; omega)) (fun j (hj:j < m) => at_ok HOA.out.2.1 (i:=j) (by have:=HL.out; omega)))
  have him:(i:Int) < (n:Int):=by have:=HL.out; omega
  obtain ⟨bg,og,rfl,hbg,hcg⟩:=(HS.out.1.kept HK.out.1).at (j:=i) (by have:=HL.out; omega)
  have hci:=hcg i (by have:=HL.out; omega)
  have q2:=HK.out.2.1.c2
  have d0:=hci.1
  have d1:=hci.2
  have hr1:(rf == 0) = true:=by simpa using hr0
  clear hi hcg hbg hci
  go_wp2_with fail
  refine (rt_value _ _ (HG.out.1 i HL.out.2.2.2) _).mono ?_
  rintro e w2 ⟨hk2,u2,rfl,t2⟩
  obtain ⟨s8,ao8,ap8,k8,c8,j8,d8,rfl⟩:=t2.shape
  clear d0 d1 q2
  go_upto_region 5 with fail
  have kp8:=(Kept.refl w2).alloc (.cells #[.bool s8,.slice ao8 k8 c8,.bool false,.slice ap8 j8 d8] 29)
  have r8:=F.RRow.alloc w2 (.bool s8) (.slice ao8 k8 c8) (.bool false) (.slice ap8 j8 d8)
  generalize w2.alloc (.cells #[.bool s8,.slice ao8 k8 c8,.bool false,.slice ap8 j8 d8] 29) = W2 at kp8 r8 ⊢
  obtain ⟨p8,hp8⟩:∃ p,p = w2.heap.size:=⟨_,rfl⟩
  rw [← hp8] at r8 ⊢
  have HPQ:=hid' hp8
  clear hp8
  have kk:=hk2.trans kp8
  have HT8:=hid' (And.intro (RT.mono (t2.kept kp8) HK.out.1.size) r8)
  have HNE:=hid' (show q5 ≠ q4∧p8 ≠ q4∧p ≠ q4∧p8 ≠ q5∧p ≠ q5 by
   have e1:=HK.out.2.2.1.lt
   have e2:=HK.out.2.2.2.lt
   have e3:=hk2.size
   have e4:=HPQ.out
   have e5:=HN45.out
   omega)
  have HK:=hid' (And.intro (HK.out.1.trans kk) (And.intro (HK.out.2.1.kept kk) (And.intro (HK.out.2.2.1.kept kk) (HK.out.2.2.2.kept kk))))
  clear hk2 kp8 t2 r8 kk
  have sS:=hid' (fun (V:World) (r:F.RRow V p8 (.bool s8) (.slice ao8 k8 c8) (.bool false) (.slice ap8 j8 d8)) (mm:Row4 24 V p (.string s) (.int .u8 kd) (.slice (some ⟨bg,og,none⟩) n c) (.slice a2 m c')) => (show V.cell? ⟨p8,0,none⟩ = some (.bool s8)∧V.cell? ⟨p8,1,none⟩ = some (.slice ao8 k8 c8)∧V.cell? ⟨p8,2,none⟩ = some (.bool false)∧V.cell? ⟨p8,3,none⟩ = some (.slice ap8 j8 d8)∧V.cell? ⟨p,0,none⟩ = some (.string s)∧V.cell? ⟨p,1,none⟩ = some (.int .u8 kd)∧V.cell? ⟨p,2,none⟩ = some (.slice (some ⟨bg,og,none⟩) n c)∧V.cell? ⟨p,3,none⟩ = some (.slice a2 m c') from ⟨r.c0,r.c1,r.c2,r.c3,mm.c0,mm.c1,mm.c2,mm.c3⟩))
  have KT:Kept W2 W2.drew:=(Kept.refl _).drew
  refine wp_region_held_drew (S:=fun w' => w'.cell? ⟨p8,0,none⟩ = some (.bool s8)∧w'.cell? ⟨p8,1,none⟩ = some (.slice ao8 k8 c8)∧w'.cell? ⟨p8,2,none⟩ = some (.bool false)∧w'.cell? ⟨p8,3,none⟩ = some (.slice ap8 j8 d8)∧w'.cell? ⟨p,0,none⟩ = some (.string s)∧w'.cell? ⟨p,1,none⟩ = some (.int .u8 kd)∧w'.cell? ⟨p,2,none⟩ = some (.slice (some ⟨bg,og,none⟩) n c)∧w'.cell? ⟨p,3,none⟩ = some (.slice a2 m c')) (by kernel_rfl) (sS.out _ (HT8.out.2.kept KT) (HK.out.2.1.kept KT)) (fun hHeld => ?_)
  generalize W2.drew = Wd at KT hHeld ⊢
  refine wpAnyH_take (i:=0) (v:=?vz1) rfl (by kernel_rfl) (by kernel_rfl) (by kernel_rfl) (fun _ _ _ h => h) (Or.inl ⟨by rfl,?yz1⟩) hHeld ?rz1
  case yz1 =>
   intro w' hSw
   obtain ⟨hSw0,hSw1,hSw2,hSw3,hSw4,hSw5,hSw6,hSw7⟩:=hSw
   go_simp
   with_reducible rfl
  case rz1 =>
  refine wpAnyH_take (i:=1) (v:=?vz2) rfl (by kernel_rfl) (by kernel_rfl) (by kernel_rfl) (fun _ _ _ h => h) (Or.inl ⟨by rfl,?yz2⟩) hHeld ?rz2
  case yz2 =>
   intro w' hSw
   obtain ⟨hSw0,hSw1,hSw2,hSw3,hSw4,hSw5,hSw6,hSw7⟩:=hSw
   go_simp
   with_reducible rfl
  case rz2 =>
  refine wpAnyH_take (i:=2) (v:=?vz3) rfl (by kernel_rfl) (by kernel_rfl) (by kernel_rfl) (fun _ _ _ h => h) (Or.inl ⟨by rfl,?yz3⟩) hHeld ?rz3
  case yz3 =>
   intro w' hSw
   obtain ⟨hSw0,hSw1,hSw2,hSw3,hSw4,hSw5,hSw6,hSw7⟩:=hSw
   go_simp
   with_reducible rfl
  case rz3 =>
  refine wpAnyH_ready (rs:=[3]) (by kernel_rfl) (by simp) ?_
  refine AllReadyH.cons rfl (fun K hK => ?_) AllReadyH.nil
  go_simp
  refine (ownM_any s kd (some ⟨bg,og,none⟩) a2 n c m c' gs vs i _ (HS.out.1.kept (HK.out.1.trans KT)) (HS.out.2.kept (HK.out.1.trans KT)) hn HL.out.2.2.1 HL.out.2.2.2 HG.out.1 HG.out.2).mono ?_
  rintro e w3 ⟨hk3,u3,rfl,t3⟩
  obtain ⟨s9,ao9,ap9,k9,c9,j9,d9,rfl⟩:=t3.shape
  have t3:=RT.mono t3 (show w.heap.size≤_ from (HK.out.1.trans KT).size)
  have KT:=KT.trans hk3
  refine hK.out _ _ (sS.out _ (HT8.out.2.kept KT) (HK.out.2.1.kept KT)) (fun hHeld => ?_)
  clear hK K hk3
  have r4:=HK.out.2.2.1.kept KT
  have r5:=HK.out.2.2.2.kept KT
  have r8:=HT8.out.2.kept KT
  have rm:=HK.out.2.1.kept KT
  have t8:=HT8.out.1.kept KT
  have KK:=HK.out.1.trans KT
  have f0:=r4.c0
  have f1:=r4.c1
  have f2:=r4.c2
  have f3:=r4.c3
  have fz:=r4.fz
  refine wpAnyH_ready (rs:=[4]) (by kernel_rfl) (by simp) ?_
  refine AllReadyH.cons rfl (fun K hK => ?_) AllReadyH.nil
  go_simp
  have r4':=F.RRow.set r4 (.bool s8) (.slice ao8 k8 c8) (.bool false) (.slice ap8 j8 d8)
  have r5:=F.RRow.far r5 HNE.out.1 (.bool s8) (.slice ao8 k8 c8) (.bool false) (.slice ap8 j8 d8)
  have r8:=F.RRow.far r8 HNE.out.2.1 (.bool s8) (.slice ao8 k8 c8) (.bool false) (.slice ap8 j8 d8)
  have rm:Row4 24 ((((w3.setCell ⟨q4,0,none⟩ (.bool s8)).setCell ⟨q4,1,none⟩ (.slice ao8 k8 c8)).setCell ⟨q4,2,none⟩ (.bool false)).setCell ⟨q4,3,none⟩ (.slice ap8 j8 d8)) p (.string s) (.int .u8 kd) (.slice (some ⟨bg,og,none⟩) n c) (.slice a2 m c'):=World.rowIs.setOther (World.rowIs.setOther (World.rowIs.setOther (World.rowIs.setOther rm HNE.out.2.2.1 _) HNE.out.2.2.1 _) HNE.out.2.2.1 _) HNE.out.2.2.1 _
  have t8:=RT.set4 t8 r4 (.bool s8) (.slice ao8 k8 c8) (.bool false) (.slice ap8 j8 d8)
  have t3:=RT.set4 t3 r4 (.bool s8) (.slice ao8 k8 c8) (.bool false) (.slice ap8 j8 d8)
  have KK:=kept_set4 KK HQ4.out (.bool s8) (.slice ao8 k8 c8) (.bool false) (.slice ap8 j8 d8)
  refine hK.out _ _ (sS.out _ r8 rm) (fun hHeld => ?_)
  clear hK K f0 f1 f2 f3 fz r4
  generalize (((w3.setCell ⟨q4,0,none⟩ (.bool s8)).setCell ⟨q4,1,none⟩ (.slice ao8 k8 c8)).setCell ⟨q4,2,none⟩ (.bool false)).setCell ⟨q4,3,none⟩ (.slice ap8 j8 d8) = w4 at r4' r5 r8 rm t8 t3 KK hHeld ⊢
  have f0:=r5.c0
  have f1:=r5.c1
  have f2:=r5.c2
  have f3:=r5.c3
  have fz:=r5.fz
  refine wpAnyH_ready (rs:=[5]) (by kernel_rfl) (by simp) ?_
  refine AllReadyH.cons rfl (fun K hK => ?_) AllReadyH.nil
  go_simp
  have r5':=F.RRow.set r5 (.bool s9) (.slice ao9 k9 c9) (.bool false) (.slice ap9 j9 d9)
  have r4':=F.RRow.far r4' (fun e => HNE.out.1 e.symm) (.bool s9) (.slice ao9 k9 c9) (.bool false) (.slice ap9 j9 d9)
  have r8:=F.RRow.far r8 HNE.out.2.2.2.1 (.bool s9) (.slice ao9 k9 c9) (.bool false) (.slice ap9 j9 d9)
  have rm:Row4 24 ((((w4.setCell ⟨q5,0,none⟩ (.bool s9)).setCell ⟨q5,1,none⟩ (.slice ao9 k9 c9)).setCell ⟨q5,2,none⟩ (.bool false)).setCell ⟨q5,3,none⟩ (.slice ap9 j9 d9)) p (.string s) (.int .u8 kd) (.slice (some ⟨bg,og,none⟩) n c) (.slice a2 m c'):=World.rowIs.setOther (World.rowIs.setOther (World.rowIs.setOther (World.rowIs.setOther rm HNE.out.2.2.2.2 _) HNE.out.2.2.2.2 _) HNE.out.2.2.2.2 _) HNE.out.2.2.2.2 _
  have t8:=RT.set4 t8 r5 (.bool s9) (.slice ao9 k9 c9) (.bool false) (.slice ap9 j9 d9)
  have t3:=RT.set4 t3 r5 (.bool s9) (.slice ao9 k9 c9) (.bool false) (.slice ap9 j9 d9)
  have KK:=kept_set4 KK HQ5.out (.bool s9) (.slice ao9 k9 c9) (.bool false) (.slice ap9 j9 d9)
  refine hK.out _ _ (sS.out _ r8 rm) (fun hHeld => ?_)
  clear hK K f0 f1 f2 f3 fz r5
  generalize (((w4.setCell ⟨q5,0,none⟩ (.bool s9)).setCell ⟨q5,1,none⟩ (.slice ao9 k9 c9)).setCell ⟨q5,2,none⟩ (.bool false)).setCell ⟨q5,3,none⟩ (.slice ap9 j9 d9) = w5 at r4' r5' r8 rm t8 t3 KK hHeld ⊢
  refine wpAnyH_take (i:=6) (v:=?vz4) rfl (by kernel_rfl) (by kernel_rfl) (by kernel_rfl) (fun _ _ _ h => h) (Or.inl ⟨by rfl,?yz4⟩) hHeld ?rz4
  case yz4 =>
   intro w' hSw
   obtain ⟨hSw0,hSw1,hSw2,hSw3,hSw4,hSw5,hSw6,hSw7⟩:=hSw
   go_simp
   with_reducible rfl
  case rz4 =>
  refine wpAnyH_done (by kernel_rfl) ?_ _
  have f0:=r4'.c0
  have g0:=r5'.c0
  have f1:=r4'.c1
  have g1:=r5'.c1
  have f2:=r4'.c2
  have g2:=r5'.c2
  have f3:=r4'.c3
  have g3:=r5'.c3
  go_wp2_with fail
  exact bodyPost_ret (v:=.tuple #[.agg #[.bool s8,.slice ao8 k8 c8,.bool false,.slice ap8 j8 d8],.agg #[.bool s9,.slice ao9 k9 c9,.bool false,.slice ap9 j9 d9],.int .i64 0]) (by simp [results,Tryz.results9,go_sem,f0,f1,f2,f3,g0,g1,g2,g3]) rfl ⟨KK,.inr ⟨HRF.out,_,_,rfl,t8,t3⟩⟩
 ·
  have r4:=HK.out.2.2.1
  have r5:=HK.out.2.2.2
  have f0:=r4.c0
  have f1:=r4.c1
  have f2:=r4.c2
  have f3:=r4.c3
  have fz:=r4.fz
  have g0:=r5.c0
  have g1:=r5.c1
  have g2:=r5.c2
  have g3:=r5.c3
  have gz:=r5.fz
  clear r4 r5
  go_wp2_with fail
  exact bodyPost_ret (v:=.tuple #[.agg #[.bool false,.slice none 0 0,.bool false,.slice none 0 0],.agg #[.bool false,.slice none 0 0,.bool false,.slice none 0 0],.int .i64 rf]) (by simp [results,Tryz.results9,go_sem,f0,f1,f2,f3,g0,g1,g2,g3]) rfl ⟨kept_set4 (kept_set4 HK.out.1 HQ4.out _ _ _ _) HQ5.out _ _ _ _,.inl ⟨hr0,rfl⟩⟩
end V
end Go.Proofs.YthfbfbfambbkaaaGreatDoor

namespace Go.Proofs.YthfbfbfambbkaaaGreatDoor
open Go.RowKit
namespace V
open Q (hid' Row3 Row2 okN okN_bd Scl)
set_option maxRecDepth 100000 in
set_option maxHeartbeats 4000000 in
theorem countM_any (s:ByteArray) (k:Int) (a1 a2:Option Addr) (n c m c':Nat) (gs vs:List (Int × Int)) (w:World) (hs:s.size≤9223372036854775807) (h1:NSl w (.slice a1 n c) gs) (h2:NSl w (.slice a2 m c') vs) (hn:n≤4611686018427387903) (hm:m≤4611686018427387903) :
  Calls Tryz.prog 18 #[.agg #[.string s,.int .u8 k,.slice a1 n c,.slice a2 m c']] w fun e w' => Kept w w'∧e = .returned (.int .i64 (if okM s.data.toList k gs vs = true then (n:Int) else 0)):=by
 have HS:=hid' (And.intro h1 h2)
 clear h1 h2
 obtain ⟨ok,hok⟩:∃ ok,ok = okM s.data.toList k gs vs:=⟨_,rfl⟩
 rw [← hok]
 have HOE:=hid' hok
 clear hok
 go_enter Tryz.func18,Tryz.ntmps18
 go_upto_region 1 with fail
 have hM:=Row4.alloc 24 w (.string s) (.int .u8 k) (.slice a1 n c) (.slice a2 m c')
 have hK:=(Kept.refl w).alloc (.cells #[.string s,.int .u8 k,.slice a1 n c,.slice a2 m c'] 24)
 generalize w.alloc (.cells #[.string s,.int .u8 k,.slice a1 n c,.slice a2 m c'] 24) = W at hM hK ⊢
 obtain ⟨p,hp⟩:∃ q,q = w.heap.size:=⟨_,rfl⟩
 rw [← hp] at hM ⊢
 clear hp
 have q0:=hM.c0
 have q1:=hM.c1
 have q2:=hM.c2
 have q3:=hM.c3
 have HK:=hid' (And.intro hK hM)
 clear hK hM
 go_wp2_with fail
 refine (validM_any s k a1 a2 n c m c' gs vs _ hs (HS.out.1.kept HK.out.1) (HS.out.2.kept HK.out.1) hn hm).mono ?_
 rintro e w1 ⟨hk1,rfl⟩
 have HK:=hid' (And.intro (HK.out.1.trans hk1) (HK.out.2.kept hk1))
 clear hk1 q0 q1 q2 q3
 rw [← HOE.out]
 clear HOE
 have q2:=HK.out.2.c2
 cases ok
 ·
  go_wp2_with fail
  go_ret
  exact ⟨HK.out.1,rfl⟩
 ·
  go_wp2_with fail
  go_ret
  exact ⟨HK.out.1,rfl⟩
end V
end Go.Proofs.YthfbfbfambbkaaaGreatDoor

namespace Go.Proofs.YthfbfbfambbkaaaGreatDoor
open Go.RowKit
namespace V
open Q (hid' Row3 Row2 okN okN_bd Scl)
theorem bl_at (s:ByteArray) (k:Nat) (h:k < s.size):s.data.toList[k]? = some s[k]:=by
 rw [List.getElem?_eq_getElem (by rw [Array.length_toList]; exact h)]
 rfl
theorem any_take (s:ByteArray) (k:Nat) (h:k < s.size):(s.data.toList.take (k + 1)).any (fun c => !nb c) = ((s.data.toList.take k).any (fun c => !nb c) || !nb s[k]):=by
 rw [List.take_add_one,bl_at s k h,List.any_append]
 simp
set_option maxRecDepth 100000 in
set_option maxHeartbeats 4000000 in
theorem rname_any (s:ByteArray) (w:World) (hs:s.size≤9223372036854775807):Calls Tryz.prog 39 #[.string s] w fun e w' => w' = w∧e = .returned (.bool (okName s.data.toList)):=by
 have hl:s.data.toList.length = s.size:=by rw [Array.length_toList]; rfl
 have HO:=hid' (show okName s.data.toList = (decide (1≤s.size∧s.size≤16) && !(s.data.toList.any fun c => !nb c)) by unfold okName; rw [hl])
 obtain ⟨ok,hok⟩:∃ ok,ok = okName s.data.toList:=⟨_,rfl⟩
 rw [← hok] at HO ⊢
 clear hok
 have HLn:=hid' hl
 clear hl
 go_enter Tryz.func39,Tryz.ntmps39
 go_wp2_with fail
 go_loopw [3] (fun vi wr => ∃ j:Nat,j≤s.size∧vi = .int .i64 (j:Int)∧Hid ((s.data.toList.take j).any (fun c => !nb c) = false)∧wr = w) (fun vi _ => s.size - (intOf vi).toNat)
 case atStart => exact ⟨0,Nat.zero_le _,rfl,hid' (by simp),rfl⟩
 case round =>
  obtain ⟨j,hj,rfl,H,rfl⟩:=hrel
  by_cases hlt:j < s.size
  ·
   have hij:(j:Int) < (s.size:Int):=by omega
   have HT:=hid' (any_take s j hlt)
   by_cases hb:nbI (s[j].toNat:Int) = true
   ·
    have HN:=hid' (show (s.data.toList.take (j + 1)).any (fun c => !nb c) = false by rw [HT.out,H.out]; unfold nb; rw [hb]; rfl)
    have hz:=of_decide_eq_true hb
    clear hb
    by_cases e1:97≤(s[j].toNat:Int)
    ·
     by_cases e2:(s[j].toNat:Int)≤122
     ·
      have e1':¬ (s[j].toNat:Int) < 97:=by omega
      have e2':¬ (122:Int) < (s[j].toNat:Int):=by omega
      clear hz
      go_wp2_with fail
      go_roundw
      case rel => exact ⟨j + 1,by omega,by go_num,HN.out,trivial⟩
      case measure => show s.size - ((j:Int) + 1).toNat < s.size - (j:Int).toNat; omega
     ·
      omega
    ·
     by_cases e3:(s[j].toNat:Int) = 95
     ·
      have e1':(s[j].toNat:Int) < 97:=by omega
      have e4:¬ (s[j].toNat:Int) < 48:=by omega
      have e5:(57:Int) < (s[j].toNat:Int):=by omega
      have e6:((s[j].toNat:Int) == 95) = true:=by simpa using e3
      clear hz
      go_wp2_with fail
      go_roundw
      case rel => exact ⟨j + 1,by omega,by go_num,HN.out,trivial⟩
      case measure => show s.size - ((j:Int) + 1).toNat < s.size - (j:Int).toNat; omega
     ·
      have e1':(s[j].toNat:Int) < 97:=by omega
      have e4:¬ (s[j].toNat:Int) < 48:=by omega
      have e5:¬ (57:Int) < (s[j].toNat:Int):=by omega
      clear hz
      go_wp2_with fail
      go_roundw
      case rel => exact ⟨j + 1,by omega,by go_num,HN.out,trivial⟩
      case measure => show s.size - ((j:Int) + 1).toNat < s.size - (j:Int).toNat; omega
   ·
    have HE:=hid' (show ok = false by
     rw [HO.out,show (s.data.toList.any fun c => !nb c) = true from ?_]
     ·
      simp
     ·
      rw [List.any_eq_true]
      exact ⟨s[j],List.mem_of_getElem? (bl_at s j hlt),by unfold nb; simpa using hb⟩)
    have hz:=of_decide_eq_false (Bool.eq_false_iff.2 hb)
    have e3:¬ (s[j].toNat:Int) = 95:=by omega
    have e6:((s[j].toNat:Int) == 95) = false:=by simpa using e3
    clear hb
    by_cases e1:(s[j].toNat:Int) < 97
    ·
     by_cases e4:(s[j].toNat:Int) < 48
     ·
      clear hz
      go_wp2_with fail
      go_ret
      exact ⟨rfl,by rw [HE.out]; rfl⟩
     ·
      have e5:(57:Int) < (s[j].toNat:Int):=by omega
      clear hz
      go_wp2_with fail
      go_ret
      exact ⟨rfl,by rw [HE.out]; rfl⟩
    ·
     have e2:(122:Int) < (s[j].toNat:Int):=by omega
     have e4:¬ (s[j].toNat:Int) < 48:=by omega
     have e5:(57:Int) < (s[j].toNat:Int):=by omega
     clear hz
     go_wp2_with fail
     go_ret
     exact ⟨rfl,by rw [HE.out]; rfl⟩
  ·
   have hij:¬ (j:Int) < (s.size:Int):=by omega
   have HA:=hid' (show (s.data.toList.any fun c => !nb c) = false by
    rw [← H.out,List.take_of_length_le (by rw [HLn.out]; omega)])
   by_cases l1:1≤s.size
   ·
    have l1':(1:Int)≤(s.size:Int):=by omega
    by_cases l2:s.size≤16
    ·
     have l2':(s.size:Int)≤16:=by omega
     have HE:=hid' (show ok = true by rw [HO.out,HA.out,decide_eq_true ⟨l1,l2⟩]; rfl)
     go_wp2_with fail
     go_ret
     exact ⟨rfl,by rw [HE.out]; rfl⟩
    ·
     have l2':¬ (s.size:Int)≤16:=by omega
     have HE:=hid' (show ok = false by rw [HO.out,decide_eq_false (fun h => l2 h.2)]; rfl)
     go_wp2_with fail
     go_ret
     exact ⟨rfl,by rw [HE.out]; rfl⟩
   ·
    have l1':¬ (1:Int)≤(s.size:Int):=by omega
    have HE:=hid' (show ok = false by rw [HO.out,decide_eq_false (fun h => l1 h.1)]; rfl)
    go_wp2_with fail
    go_ret
    exact ⟨rfl,by rw [HE.out]; rfl⟩
end V
end Go.Proofs.YthfbfbfambbkaaaGreatDoor

namespace Go.Proofs.YthfbfbfambbkaaaGreatDoor
open Go.RowKit
namespace V
theorem ready1 {P:Program} {md:Region.Mode} {ops:Array Oper} {Q:Exit→Act→World→Prop} {S:World→Prop} {i:Nat} {o:Oper} {fuel:Nat} {listed:Array Bool} {a:Act} {w:World} (hr:Region.ready md ops listed = [i]) (ho:ops[i]? = some o) (hw:Region.wanted o (yielded ops a.tmps) = true)
  (h:∀ K':Act→World→Prop,Shut (∀ a w,S w→(S w→wpAnyH P md ops Q S fuel (listed.setIfInBounds i true) a w)→K' a w)→Oper.wp P o a w K' Q):wpAnyH P md ops Q S (fuel + 1) listed a w :=
 wpAnyH_ready hr (by simp) (AllReadyH.cons ho (fun K hK => by rw [if_pos hw]; exact h K hK) AllReadyH.nil)
end V
end Go.Proofs.YthfbfbfambbkaaaGreatDoor

namespace Go.Proofs.YthfbfbfambbkaaaGreatDoor
open Go.RowKit
namespace V
open Q (hid' Row3 Row2 okN okN_bd Scl)
theorem ft_held {v v':Value} {A A':Int} {S:Nat} (w:World) (h:FT w v A S) (h':FT w v' A' S) (hS:0 < S) :
  Calls Tryz.prog 41 #[v,v'] w fun e w' => Kept w w'∧e = .returned (.int .i64 (isgn A A')):=by
 obtain ⟨N,D,⟨s,a1,k1,c1,t,a2,k2,c2,rfl,n1,n2,l1,l2⟩,p,_,e⟩:=h
 obtain ⟨N',D',⟨s',b1,k3,c3,t',b2,k4,c4,rfl,n3,n4,l3,l4⟩,p',_,e'⟩:=h'
 refine (F.FHeld_any s t s' t' a1 a2 b1 b2 k1 c1 k2 c2 k3 c3 k4 c4 N D N' D' w n1 n2 n3 n4 (by omega)).mono ?_
 rintro e0 w' ⟨hk,rfl⟩
 have q:(D.toNat:Int) = D:=Int.toNat_of_nonneg (by omega)
 have q':(D'.toNat:Int) = D':=Int.toNat_of_nonneg (by omega)
 have:=isgn_terms (N:=N) (N':=N') (A:=A) (A':=A') (D:=D.toNat) (D':=D'.toNat) (S:=S) (by omega) (by omega) hS (by rw [q]; exact e) (by rw [q']; exact e')
 rw [q,q'] at this
 exact ⟨hk,by rw [this]⟩
theorem allN_of {l:List (Int × Int)} (h:∀ i,i < l.length→okN (l.getD i (0,0)).1 (l.getD i (0,0)).2 = true):allN l = true:=by
 unfold allN
 have:l.any (fun q => !okN q.1 q.2) = false:=by
  rw [List.any_eq_false]
  intro q hq
  obtain ⟨i,hi,rfl⟩:=List.getElem_of_mem hq
  have:=h i hi
  rw [List.getD_eq_getElem?_getD,List.getElem?_eq_getElem hi] at this
  simpa using this
 rw [this]; rfl
theorem okM_at {s:List UInt8} {k:Int} {gs vs:List (Int × Int)} (h:okM s k gs vs = true):(∀ i,i < gs.length→okN (gs.getD i (0,0)).1 (gs.getD i (0,0)).2 = true)∧(∀ i,i < vs.length→okN (vs.getD i (0,0)).1 (vs.getD i (0,0)).2 = true):=by
 have h0:=okM_all h
 constructor
 ·
  intro i hi
  refine h0.1 _ ?_
  rw [List.getD_eq_getElem?_getD,List.getElem?_eq_getElem hi]
  exact List.getElem_mem hi
 ·
  intro i hi
  refine h0.2.1 _ ?_
  rw [List.getD_eq_getElem?_getD,List.getElem?_eq_getElem hi]
  exact List.getElem_mem hi
open Go.Sort (grow) in
set_option maxRecDepth 100000 in
set_option maxHeartbeats 8000000 in
theorem rvalidM_any (s:ByteArray) (k:Int) (a1 a2:Option Addr) (n c m c':Nat) (gs vs:List (Int × Int)) (w:World) (hs:s.size≤9223372036854775807) (h1:NSl w (.slice a1 n c) gs) (h2:NSl w (.slice a2 m c') vs) (hn:n≤4611686018427387903) (hm:m≤4611686018427387903) :
  Calls Tryz.prog 15 #[.agg #[.string s,.int .u8 k,.slice a1 n c,.slice a2 m c']] w fun e w' => Kept w w'∧e = .returned (.bool (okM s.data.toList k gs vs)):=by
 have HS:=hid' (And.intro h1 h2)
 have HL:=hid' (show m = vs.length∧n = gs.length from ⟨h2.len,h1.len⟩)
 clear h1 h2
 have HN:=hid' (rname_any s)
 have hsz:=hs
 go_enter Tryz.func15,Tryz.ntmps15
 go_upto_region 1 with fail
 have hK:=(Kept.refl w).alloc (.cells #[.string s,.int .u8 k,.slice a1 n c,.slice a2 m c'] 24)
 have hR:=Row4.alloc 24 w (.string s) (.int .u8 k) (.slice a1 n c) (.slice a2 m c')
 generalize w.alloc (.cells #[.string s,.int .u8 k,.slice a1 n c,.slice a2 m c'] 24) = W at hK hR ⊢
 obtain ⟨p,hp⟩:∃ p,p = w.heap.size:=⟨_,rfl⟩
 rw [← hp] at hR ⊢
 have HB:=hid' (And.intro hK hR)
 have q0:=hR.c0
 clear hp hK hR
 go_wp2_with fail
 refine (HN.out _ hsz).mono ?_
 rintro e w1 ⟨rfl,rfl⟩
 obtain ⟨b1,hb1⟩:∃ b,b = okName s.data.toList:=⟨_,rfl⟩
 rw [← hb1]
 have HB1:=hid' hb1
 clear hb1 q0 HN
 cases b1
 ·
  go_wp2_with fail
  go_ret
  exact ⟨HB.out.1,by unfold okM; rw [← HB1.out]; rfl⟩
 go_wp2_with fail
 go_loopw [3] (fun vi wr => ∃ j:Nat,j≤n∧vi = .int .i64 (j:Int)∧Hid (Kept w1 wr∧∀ i,i < j→okN (gs.getD i (0,0)).1 (gs.getD i (0,0)).2 = true)) (fun vi _ => n - (intOf vi).toNat)
 case atStart => exact ⟨0,Nat.zero_le _,rfl,Kept.refl _,fun i hi => absurd hi (Nat.not_lt_zero _)⟩
 case round =>
  obtain ⟨j,hj,rfl,H⟩:=hrel
  have e2:=(HB.out.2.kept H.out.1).c2
  by_cases hlt:j < n
  ·
   have hltz:(j:Int) < (n:Int):=by omega
   obtain ⟨ao',cap',hv,hx⟩:=HS.out.1.kept (HB.out.1.trans H.out.1)
   simp only [Value.slice.injEq] at hv
   obtain ⟨rfl,hq',rfl⟩:=hv
   obtain ⟨b,off,rfl,hb,hc⟩:=hx (by omega)
   obtain ⟨d0,d1⟩:=hc j (by omega)
   obtain ⟨x,hX⟩:∃ x,x = gs.getD j (0,0):=⟨_,rfl⟩
   rw [← hX] at d0 d1
   have HX:=hid' hX
   obtain ⟨x0,x1⟩:=x
   dsimp only at d0 d1
   clear hq' hx hc hX hb
   go_wp2_with fail
   refine (Q.RValid_any x0 x1 _).mono ?_
   rintro e w2 ⟨hk2,rfl⟩
   have HK2:=hid' (H.out.1.trans hk2)
   obtain ⟨o1,ho1⟩:∃ o,o = okN x0 x1:=⟨_,rfl⟩
   rw [← ho1]
   have HO:=hid' (show o1 = okN (gs.getD j (0,0)).1 (gs.getD j (0,0)).2 by rw [ho1,← HX.out])
   clear hk2 d0 d1 e2 ho1 HX
   cases o1
   ·
    go_wp2_with fail
    go_ret
    refine ⟨HB.out.1.trans HK2.out,congrArg (fun b => Ending.returned (Value.bool b)) ?_⟩
    symm
    rw [Bool.eq_false_iff]
    intro hok
    have:=(okM_at hok).1 j (by have:=HL.out; omega)
    rw [← HO.out] at this
    cases this
   ·
    go_wp2_with fail
    go_roundw
    case rel =>
     refine ⟨j + 1,by omega,by go_num,HK2.out,fun i hi => ?_⟩
     by_cases e:i = j
     ·
      subst e; exact HO.out.symm
     ·
      exact H.out.2 i (by omega)
    case measure => show n - ((j:Int) + 1).toNat < n - (j:Int).toNat; omega
  ·
   obtain rfl:j = n:=by omega
   have hltz:¬ (j:Int) < (j:Int):=by omega
   have HG:=hid' (fun i (hi:i < gs.length) => H.out.2 i (by have:=HL.out; omega))
   have HB:=hid' (And.intro (HB.out.1.trans H.out.1) (HB.out.2.kept H.out.1))
   clear H hlt
   go_wp2_with fail
   clear e2
   generalize hW:wr = W at HB ⊢
   clear hW
   go_loopw [4] (fun vi wr => ∃ i:Nat,i≤m∧vi = .int .i64 (i:Int)∧Hid (Kept W wr∧(∀ l,l < i→okN (vs.getD l (0,0)).1 (vs.getD l (0,0)).2 = true)∧(k = 100→∀ l,l + 1 < i→U (vs.getD l (0,0)).1 (vs.getD l (0,0)).2 < U (vs.getD (l + 1) (0,0)).1 (vs.getD (l + 1) (0,0)).2))) (fun vi _ => m - (intOf vi).toNat)
   case atStart => exact ⟨0,Nat.zero_le _,rfl,Kept.refl _,(fun i hi => absurd hi (Nat.not_lt_zero _)),fun _ i hi => absurd hi (Nat.not_lt_zero _)⟩
   case round =>
    obtain ⟨i,hi,rfl,H⟩:=hrel
    have e3:=(HB.out.2.kept H.out.1).c3
    by_cases hlt:i < m
    ·
     have hltm:(i:Int) < (m:Int):=by omega
     obtain ⟨ao',cap',hv,hx⟩:=HS.out.2.kept (HB.out.1.trans H.out.1)
     simp only [Value.slice.injEq] at hv
     obtain ⟨rfl,hq',rfl⟩:=hv
     obtain ⟨b,off,rfl,hb,hc⟩:=hx (by omega)
     obtain ⟨d2,d3⟩:=hc i (by omega)
     obtain ⟨y,hY⟩:∃ y,y = vs.getD i (0,0):=⟨_,rfl⟩
     rw [← hY] at d2 d3
     have HY:=hid' hY
     obtain ⟨y0,y1⟩:=y
     dsimp only at d2 d3
     have HC:=hid' (And.intro hb hc)
     clear hq' hx hc hY hb
     go_wp2_with fail
     refine (Q.RValid_any y0 y1 _).mono ?_
     rintro e W7 ⟨hk2,rfl⟩
     have HK7:=hid' (H.out.1.trans hk2)
     obtain ⟨o1,ho1⟩:∃ o,o = okN y0 y1:=⟨_,rfl⟩
     rw [← ho1]
     have HO:=hid' ho1
     have HO1':=hid' (show o1 = okN (vs.getD i (0,0)).1 (vs.getD i (0,0)).2 by rw [ho1,← HY.out])
     have HC:=hid' (show b < W7.heap.size∧∀ j,j < vs.length→W7.cell? ⟨b,off + j * 2,none⟩ = some (.int .i64 (vs.getD j (0,0)).1)∧W7.cell? ⟨b,off + j * 2 + 1,none⟩ = some (.int .i64 (vs.getD j (0,0)).2) from
      ⟨Nat.lt_of_lt_of_le HC.out.1 hk2.size,fun j hj => ⟨(Below.cell hk2 (p:=⟨b,off + j * 2,none⟩) HC.out.1).trans (HC.out.2 j hj).1,(Below.cell hk2 (p:=⟨b,off + j * 2 + 1,none⟩) HC.out.1).trans (HC.out.2 j hj).2⟩⟩)
     clear hk2 d2 d3 e3 ho1
     cases o1
     ·
      go_wp2_with fail
      go_ret
      refine ⟨HB.out.1.trans HK7.out,congrArg (fun b => Ending.returned (Value.bool b)) ?_⟩
      symm
      rw [Bool.eq_false_iff]
      intro hok
      have:=(okM_at hok).2 i (by have:=HL.out; omega)
      rw [← HO1'.out] at this
      cases this
     ·
      by_cases hkd:k = 100
      ·
       by_cases hi0:i = 0
       ·
        subst hi0
        subst hkd
        have hz:¬ (0:Int) < ((0:Nat):Int):=by omega
        have KR:Kept W7 W7.drew:=(Kept.refl _).drew
        have e1:=(HB.out.2.kept HK7.out).c1
        have hml:=(HB.out.2.kept HK7.out).lt
        have sS:=hid' (fun (V:World) (K:Kept W7 V) => (show V.cell? ⟨p,1,none⟩ = some (.int .u8 100) from (Below.cell K (p:=⟨p,1,none⟩) hml).trans e1))
        clear e1 hml
        go_upto_region 13 with fail
        refine wp_region_held_drew (S:=fun w' => w'.cell? ⟨p,1,none⟩ = some (.int .u8 100)) (by kernel_rfl) (sS.out _ KR) (fun hHeld => ?_)
        generalize W7.drew = Wd at KR hHeld ⊢
        refine take1 (i:=0) (v:=?vz03) rfl rfl (by kernel_rfl) (by kernel_rfl) (by kernel_rfl) (fun _ _ _ h => h) (Or.inl ⟨by kernel_rfl,?yz03⟩) hHeld ?rz03
        case yz03 =>
         intro w' hSw
         have hSw0:=hSw
         go_simp
         with_reducible rfl
        case rz03 =>
        simp only [List.set_cons_zero,List.set_cons_succ]
        refine take1 (i:=1) (v:=?vz04) rfl rfl (by kernel_rfl) (by kernel_rfl) (by kernel_rfl) (fun _ _ _ h => h) (Or.inl ⟨by kernel_rfl,?yz04⟩) hHeld ?rz04
        case yz04 =>
         intro w' hSw
         have hSw0:=hSw
         go_simp
         with_reducible rfl
        case rz04 =>
        simp only [List.set_cons_zero,List.set_cons_succ]
        refine take1 (i:=2) (v:=?vz05) rfl rfl (by kernel_rfl) (by kernel_rfl) (by kernel_rfl) (fun _ _ _ h => h) (Or.inl ⟨by kernel_rfl,?yz05⟩) hHeld ?rz05
        case yz05 =>
         intro w' hSw
         have hSw0:=hSw
         go_simp
         with_reducible rfl
        case rz05 =>
        simp only [List.set_cons_zero,List.set_cons_succ]
        refine take1 (i:=3) (v:=?vz06) rfl rfl (by kernel_rfl) (by kernel_rfl) (by kernel_rfl) (fun _ _ _ h => h) (Or.inl ⟨by kernel_rfl,?yz06⟩) hHeld ?rz06
        case yz06 =>
         intro w' hSw
         have hSw0:=hSw
         go_simp
         with_reducible rfl
        case rz06 =>
        simp only [List.set_cons_zero,List.set_cons_succ]
        refine take1 (i:=4) (v:=?vz01) rfl rfl (by kernel_rfl) (by kernel_rfl) (by kernel_rfl) (fun _ _ _ h => h) (Or.inl ⟨by kernel_rfl,?yz01⟩) hHeld ?rz01
        case yz01 =>
         intro w' hSw
         have hSw0:=hSw
         go_simp
         with_reducible rfl
        case rz01 =>
        simp only [List.set_cons_zero,List.set_cons_succ]
        refine take1 (i:=5) (v:=?vz02) rfl rfl (by kernel_rfl) (by kernel_rfl) (by kernel_rfl) (fun _ _ _ h => h) (Or.inl ⟨by kernel_rfl,?yz02⟩) hHeld ?rz02
        case yz02 =>
         intro w' hSw
         have hSw0:=hSw
         go_simp
         with_reducible rfl
        case rz02 =>
        simp only [List.set_cons_zero,List.set_cons_succ]
        refine take1 (i:=6) (v:=?vz07) rfl rfl (by kernel_rfl) (by kernel_rfl) (by kernel_rfl) (fun _ _ _ h => h) (Or.inl ⟨by kernel_rfl,?yz07⟩) hHeld ?rz07
        case yz07 =>
         intro w' hSw
         have hSw0:=hSw
         go_simp
         with_reducible rfl
        case rz07 =>
        simp only [List.set_cons_zero,List.set_cons_succ]
        refine take1 (i:=7) (v:=?vz08) rfl rfl (by kernel_rfl) (by kernel_rfl) (by kernel_rfl) (fun _ _ _ h => h) (Or.inl ⟨by kernel_rfl,?yz08⟩) hHeld ?rz08
        case yz08 =>
         intro w' hSw
         have hSw0:=hSw
         go_simp
         with_reducible rfl
        case rz08 =>
        simp only [List.set_cons_zero,List.set_cons_succ]
        refine take1 (i:=8) (v:=undef) rfl rfl (by kernel_rfl) (by kernel_rfl) (by kernel_rfl) (fun _ _ _ h => h) (Or.inr ⟨by kernel_rfl,rfl⟩) hHeld ?rz09
        case rz09 =>
        simp only [List.set_cons_zero,List.set_cons_succ]
        refine take1 (i:=9) (v:=undef) rfl rfl (by kernel_rfl) (by kernel_rfl) (by kernel_rfl) (fun _ _ _ h => h) (Or.inr ⟨by kernel_rfl,rfl⟩) hHeld ?rz010
        case rz010 =>
        simp only [List.set_cons_zero,List.set_cons_succ]
        refine take1 (i:=10) (v:=undef) rfl rfl (by kernel_rfl) (by kernel_rfl) (by kernel_rfl) (fun _ _ _ h => h) (Or.inr ⟨by kernel_rfl,rfl⟩) hHeld ?rz011
        case rz011 =>
        simp only [List.set_cons_zero,List.set_cons_succ]
        refine take1 (i:=11) (v:=undef) rfl rfl (by kernel_rfl) (by kernel_rfl) (by kernel_rfl) (fun _ _ _ h => h) (Or.inr ⟨by kernel_rfl,rfl⟩) hHeld ?rz012
        case rz012 =>
        simp only [List.set_cons_zero,List.set_cons_succ]
        refine take1 (i:=12) (v:=undef) rfl rfl (by kernel_rfl) (by kernel_rfl) (by kernel_rfl) (fun _ _ _ h => h) (Or.inr ⟨by kernel_rfl,rfl⟩) hHeld ?rz013
        case rz013 =>
        simp only [List.set_cons_zero,List.set_cons_succ]
        refine take1 (i:=13) (v:=undef) rfl rfl (by kernel_rfl) (by kernel_rfl) (by kernel_rfl) (fun _ _ _ h => h) (Or.inr ⟨by kernel_rfl,rfl⟩) hHeld ?rz014
        case rz014 =>
        simp only [List.set_cons_zero,List.set_cons_succ]
        refine take1 (i:=14) (v:=undef) rfl rfl (by kernel_rfl) (by kernel_rfl) (by kernel_rfl) (fun _ _ _ h => h) (Or.inr ⟨by kernel_rfl,rfl⟩) hHeld ?rz015
        case rz015 =>
        simp only [List.set_cons_zero,List.set_cons_succ]
        refine take1 (i:=15) (v:=undef) rfl rfl (by kernel_rfl) (by kernel_rfl) (by kernel_rfl) (fun _ _ _ h => h) (Or.inr ⟨by kernel_rfl,rfl⟩) hHeld ?rz016
        case rz016 =>
        simp only [List.set_cons_zero,List.set_cons_succ]
        refine take1 (i:=16) (v:=undef) rfl rfl (by kernel_rfl) (by kernel_rfl) (by kernel_rfl) (fun _ _ _ h => h) (Or.inr ⟨by kernel_rfl,rfl⟩) hHeld ?rz017
        case rz017 =>
        simp only [List.set_cons_zero,List.set_cons_succ]
        refine take1 (i:=17) (v:=undef) rfl rfl (by kernel_rfl) (by kernel_rfl) (by kernel_rfl) (fun _ _ _ h => h) (Or.inr ⟨by kernel_rfl,rfl⟩) hHeld ?rz018
        case rz018 =>
        simp only [List.set_cons_zero,List.set_cons_succ]
        refine take1 (i:=18) (v:=undef) rfl rfl (by kernel_rfl) (by kernel_rfl) (by kernel_rfl) (fun _ _ _ h => h) (Or.inr ⟨by kernel_rfl,rfl⟩) hHeld ?rz019
        case rz019 =>
        simp only [List.set_cons_zero,List.set_cons_succ]
        refine take1 (i:=19) (v:=undef) rfl rfl (by kernel_rfl) (by kernel_rfl) (by kernel_rfl) (fun _ _ _ h => h) (Or.inr ⟨by kernel_rfl,rfl⟩) hHeld ?rz020
        case rz020 =>
        simp only [List.set_cons_zero,List.set_cons_succ]
        refine take1 (i:=20) (v:=undef) rfl rfl (by kernel_rfl) (by kernel_rfl) (by kernel_rfl) (fun _ _ _ h => h) (Or.inr ⟨by kernel_rfl,rfl⟩) hHeld ?rz021
        case rz021 =>
        simp only [List.set_cons_zero,List.set_cons_succ]
        refine take1 (i:=21) (v:=undef) rfl rfl (by kernel_rfl) (by kernel_rfl) (by kernel_rfl) (fun _ _ _ h => h) (Or.inr ⟨by kernel_rfl,rfl⟩) hHeld ?rz022
        case rz022 =>
        simp only [List.set_cons_zero,List.set_cons_succ]
        refine take1 (i:=22) (v:=undef) rfl rfl (by kernel_rfl) (by kernel_rfl) (by kernel_rfl) (fun _ _ _ h => h) (Or.inr ⟨by kernel_rfl,rfl⟩) hHeld ?rz023
        case rz023 =>
        simp only [List.set_cons_zero,List.set_cons_succ]
        refine take1 (i:=23) (v:=?vz024) rfl rfl (by kernel_rfl) (by kernel_rfl) (by kernel_rfl) (fun _ _ _ h => h) (Or.inl ⟨by kernel_rfl,?yz024⟩) hHeld ?rz024
        case yz024 =>
         intro w' hSw
         have hSw0:=hSw
         go_simp
         with_reducible rfl
        case rz024 =>
        simp only [List.set_cons_zero,List.set_cons_succ]
        refine wpAnyH_done (by kernel_rfl) ?_ _
        have HKR:=hid' KR
        clear sS hHeld KR
        go_wp2_with fail
        go_roundw
        case rel =>
         refine ⟨0 + 1,by omega,by go_num,HK7.out.trans HKR.out,(fun l hl => ?_),fun _ l hl => by omega⟩
         obtain rfl:l = 0:=by omega
         exact HO1'.out.symm
        case measure => show m - (((0:Nat):Int) + 1).toNat < m - ((0:Nat):Int).toNat; omega
       ·
        obtain ⟨j,rfl⟩:∃ j,i = j + 1:=⟨i - 1,by omega⟩
        subst hkd
        have ec:((j + 1:Nat):Int) = (j:Int) + 1:=by omega
        rw [ec] at hltm ⊢
        obtain ⟨hb,hc⟩:=HC.out
        obtain ⟨d0,d1⟩:=hc j (by have:=HL.out; omega)
        obtain ⟨d2,d3⟩:=hc (j + 1) (by have:=HL.out; omega)
        obtain ⟨x,hX⟩:∃ x,x = vs.getD j (0,0):=⟨_,rfl⟩
        rw [← hX] at d0 d1
        rw [← HY.out] at d2 d3
        have HX:=hid' (And.intro hX HY.out)
        have ok0:okN (vs.getD j (0,0)).1 (vs.getD j (0,0)).2 = true:=H.out.2.1 j (by omega)
        rw [← hX] at ok0
        have ok1:okN y0 y1 = true:=HO.out.symm
        have HO1:=hid' HO1'.out.symm
        obtain ⟨x0,x1⟩:=x
        dsimp only at d0 d1 d2 d3 ok0
        clear hc hX HC HO HO1' hi0 ec HY
        have hj1:(0:Int) < (j:Int) + 1:=by omega
        have hj2:(j:Int) + 1 - 1 = (j:Int):=by omega
        have hj3:IntKind.i64.wrap (j:Int) = (j:Int):=by rw [IntKind.wrap_i64]; omega
        have hj5:(j:Int) < (m:Int):=by omega
        have hj6:((j:Int) + 1).toNat = j + 1:=by omega
        have hj7:(0:Int)≤(j:Int) + 1:=by omega
        have hsz:=(HB.out.2.kept H.out.1).lt
        have KT:Kept W W7.drew:=HK7.out.drew
        have KR:Kept W7 W7.drew:=(Kept.refl _).drew
        have e1:=(HB.out.2.kept HK7.out).c1
        have e3:=(HB.out.2.kept HK7.out).c3
        have hml:=(HB.out.2.kept HK7.out).lt
        have sS:=hid' (fun (V:World) (K:Kept W7 V) => (show V.cell? ⟨p,1,none⟩ = some (.int .u8 100)∧V.cell? ⟨p,3,none⟩ = some (.slice (some ⟨b,off,none⟩) m c')∧V.cell? ⟨b,off + j * 2,none⟩ = some (.int .i64 x0)∧V.cell? ⟨b,off + j * 2 + 1,none⟩ = some (.int .i64 x1)∧V.cell? ⟨b,off + (j + 1) * 2,none⟩ = some (.int .i64 y0)∧V.cell? ⟨b,off + (j + 1) * 2 + 1,none⟩ = some (.int .i64 y1) from ⟨(Below.cell K (p:=⟨p,1,none⟩) hml).trans e1,(Below.cell K (p:=⟨p,3,none⟩) hml).trans e3,(Below.cell K (p:=⟨b,off + j * 2,none⟩) hb).trans d0,(Below.cell K (p:=⟨b,off + j * 2 + 1,none⟩) hb).trans d1,(Below.cell K (p:=⟨b,off + (j + 1) * 2,none⟩) hb).trans d2,(Below.cell K (p:=⟨b,off + (j + 1) * 2 + 1,none⟩) hb).trans d3⟩))
        clear e1 e3 hml d0 d1 d2 d3 hb hsz
        go_upto_region 13 with fail
        refine wp_region_held_drew (S:=fun w' => w'.cell? ⟨p,1,none⟩ = some (.int .u8 100)∧w'.cell? ⟨p,3,none⟩ = some (.slice (some ⟨b,off,none⟩) m c')∧w'.cell? ⟨b,off + j * 2,none⟩ = some (.int .i64 x0)∧w'.cell? ⟨b,off + j * 2 + 1,none⟩ = some (.int .i64 x1)∧w'.cell? ⟨b,off + (j + 1) * 2,none⟩ = some (.int .i64 y0)∧w'.cell? ⟨b,off + (j + 1) * 2 + 1,none⟩ = some (.int .i64 y1)) (by kernel_rfl) (sS.out _ KR) (fun hHeld => ?_)
        generalize W7.drew = Wd at KT KR hHeld ⊢
        refine take1 (i:=0) (v:=?vq1) rfl rfl (by kernel_rfl) (by kernel_rfl) (by kernel_rfl) (fun _ _ _ h => h) (Or.inl ⟨by kernel_rfl,?yq1⟩) hHeld ?rq1
        case yq1 =>
         intro w' hSw
         obtain ⟨hSw0,hSw1,hSw2,hSw3,hSw4,hSw5⟩:=hSw
         go_simp
         with_reducible rfl
        case rq1 =>
        simp only [List.set_cons_zero,List.set_cons_succ]
        refine take1 (i:=1) (v:=?vq2) rfl rfl (by kernel_rfl) (by kernel_rfl) (by kernel_rfl) (fun _ _ _ h => h) (Or.inl ⟨by kernel_rfl,?yq2⟩) hHeld ?rq2
        case yq2 =>
         intro w' hSw
         obtain ⟨hSw0,hSw1,hSw2,hSw3,hSw4,hSw5⟩:=hSw
         go_simp
         with_reducible rfl
        case rq2 =>
        simp only [List.set_cons_zero,List.set_cons_succ]
        refine take1 (i:=2) (v:=?vq3) rfl rfl (by kernel_rfl) (by kernel_rfl) (by kernel_rfl) (fun _ _ _ h => h) (Or.inl ⟨by kernel_rfl,?yq3⟩) hHeld ?rq3
        case yq3 =>
         intro w' hSw
         obtain ⟨hSw0,hSw1,hSw2,hSw3,hSw4,hSw5⟩:=hSw
         go_simp
         with_reducible rfl
        case rq3 =>
        simp only [List.set_cons_zero,List.set_cons_succ]
        refine take1 (i:=3) (v:=?vq4) rfl rfl (by kernel_rfl) (by kernel_rfl) (by kernel_rfl) (fun _ _ _ h => h) (Or.inl ⟨by kernel_rfl,?yq4⟩) hHeld ?rq4
        case yq4 =>
         intro w' hSw
         obtain ⟨hSw0,hSw1,hSw2,hSw3,hSw4,hSw5⟩:=hSw
         go_simp
         with_reducible rfl
        case rq4 =>
        simp only [List.set_cons_zero,List.set_cons_succ]
        refine take1 (i:=4) (v:=?vq5) rfl rfl (by kernel_rfl) (by kernel_rfl) (by kernel_rfl) (fun _ _ _ h => h) (Or.inl ⟨by kernel_rfl,?yq5⟩) hHeld ?rq5
        case yq5 =>
         intro w' hSw
         obtain ⟨hSw0,hSw1,hSw2,hSw3,hSw4,hSw5⟩:=hSw
         go_simp
         with_reducible rfl
        case rq5 =>
        simp only [List.set_cons_zero,List.set_cons_succ]
        refine take1 (i:=5) (v:=?vq6) rfl rfl (by kernel_rfl) (by kernel_rfl) (by kernel_rfl) (fun _ _ _ h => h) (Or.inl ⟨by kernel_rfl,?yq6⟩) hHeld ?rq6
        case yq6 =>
         intro w' hSw
         obtain ⟨hSw0,hSw1,hSw2,hSw3,hSw4,hSw5⟩:=hSw
         go_simp
         with_reducible rfl
        case rq6 =>
        simp only [List.set_cons_zero,List.set_cons_succ]
        refine take1 (i:=6) (v:=?vq7) rfl rfl (by kernel_rfl) (by kernel_rfl) (by kernel_rfl) (fun _ _ _ h => h) (Or.inl ⟨by kernel_rfl,?yq7⟩) hHeld ?rq7
        case yq7 =>
         intro w' hSw
         obtain ⟨hSw0,hSw1,hSw2,hSw3,hSw4,hSw5⟩:=hSw
         go_simp
         with_reducible rfl
        case rq7 =>
        simp only [List.set_cons_zero,List.set_cons_succ]
        refine take1 (i:=7) (v:=?vq8) rfl rfl (by kernel_rfl) (by kernel_rfl) (by kernel_rfl) (fun _ _ _ h => h) (Or.inl ⟨by kernel_rfl,?yq8⟩) hHeld ?rq8
        case yq8 =>
         intro w' hSw
         obtain ⟨hSw0,hSw1,hSw2,hSw3,hSw4,hSw5⟩:=hSw
         go_simp
         with_reducible rfl
        case rq8 =>
        simp only [List.set_cons_zero,List.set_cons_succ]
        refine take1 (i:=8) (v:=?vq9) rfl rfl (by kernel_rfl) (by kernel_rfl) (by kernel_rfl) (fun _ _ _ h => h) (Or.inl ⟨by kernel_rfl,?yq9⟩) hHeld ?rq9
        case yq9 =>
         intro w' hSw
         obtain ⟨hSw0,hSw1,hSw2,hSw3,hSw4,hSw5⟩:=hSw
         go_simp
         with_reducible rfl
        case rq9 =>
        simp only [List.set_cons_zero,List.set_cons_succ]
        refine take1 (i:=9) (v:=?vq10) rfl rfl (by kernel_rfl) (by kernel_rfl) (by kernel_rfl) (fun _ _ _ h => h) (Or.inl ⟨by kernel_rfl,?yq10⟩) hHeld ?rq10
        case yq10 =>
         intro w' hSw
         obtain ⟨hSw0,hSw1,hSw2,hSw3,hSw4,hSw5⟩:=hSw
         go_simp
         with_reducible rfl
        case rq10 =>
        simp only [List.set_cons_zero,List.set_cons_succ]
        refine take1 (i:=10) (v:=?vq11) rfl rfl (by kernel_rfl) (by kernel_rfl) (by kernel_rfl) (fun _ _ _ h => h) (Or.inl ⟨by kernel_rfl,?yq11⟩) hHeld ?rq11
        case yq11 =>
         intro w' hSw
         obtain ⟨hSw0,hSw1,hSw2,hSw3,hSw4,hSw5⟩:=hSw
         go_simp
         with_reducible rfl
        case rq11 =>
        simp only [List.set_cons_zero,List.set_cons_succ]
        refine take1 (i:=11) (v:=?vq12) rfl rfl (by kernel_rfl) (by kernel_rfl) (by kernel_rfl) (fun _ _ _ h => h) (Or.inl ⟨by kernel_rfl,?yq12⟩) hHeld ?rq12
        case yq12 =>
         intro w' hSw
         obtain ⟨hSw0,hSw1,hSw2,hSw3,hSw4,hSw5⟩:=hSw
         go_simp
         with_reducible rfl
        case rq12 =>
        simp only [List.set_cons_zero,List.set_cons_succ]
        refine take1 (i:=12) (v:=?vq13) rfl rfl (by kernel_rfl) (by kernel_rfl) (by kernel_rfl) (fun _ _ _ h => h) (Or.inl ⟨by kernel_rfl,?yq13⟩) hHeld ?rq13
        case yq13 =>
         intro w' hSw
         obtain ⟨hSw0,hSw1,hSw2,hSw3,hSw4,hSw5⟩:=hSw
         go_simp
         with_reducible rfl
        case rq13 =>
        simp only [List.set_cons_zero,List.set_cons_succ]
        refine take1 (i:=13) (v:=?vq14) rfl rfl (by kernel_rfl) (by kernel_rfl) (by kernel_rfl) (fun _ _ _ h => h) (Or.inl ⟨by kernel_rfl,?yq14⟩) hHeld ?rq14
        case yq14 =>
         intro w' hSw
         obtain ⟨hSw0,hSw1,hSw2,hSw3,hSw4,hSw5⟩:=hSw
         go_simp
         with_reducible rfl
        case rq14 =>
        simp only [List.set_cons_zero,List.set_cons_succ]
        refine take1 (i:=15) (v:=?vq15) rfl rfl (by kernel_rfl) (by kernel_rfl) (by kernel_rfl) (fun _ _ _ h => h) (Or.inl ⟨by kernel_rfl,?yq15⟩) hHeld ?rq15
        case yq15 =>
         intro w' hSw
         obtain ⟨hSw0,hSw1,hSw2,hSw3,hSw4,hSw5⟩:=hSw
         go_simp
         with_reducible rfl
        case rq15 =>
        simp only [List.set_cons_zero,List.set_cons_succ]
        refine take1 (i:=16) (v:=?vq16) rfl rfl (by kernel_rfl) (by kernel_rfl) (by kernel_rfl) (fun _ _ _ h => h) (Or.inl ⟨by kernel_rfl,?yq16⟩) hHeld ?rq16
        case yq16 =>
         intro w' hSw
         obtain ⟨hSw0,hSw1,hSw2,hSw3,hSw4,hSw5⟩:=hSw
         go_simp
         with_reducible rfl
        case rq16 =>
        simp only [List.set_cons_zero,List.set_cons_succ]
        refine take1 (i:=17) (v:=?vq17) rfl rfl (by kernel_rfl) (by kernel_rfl) (by kernel_rfl) (fun _ _ _ h => h) (Or.inl ⟨by kernel_rfl,?yq17⟩) hHeld ?rq17
        case yq17 =>
         intro w' hSw
         obtain ⟨hSw0,hSw1,hSw2,hSw3,hSw4,hSw5⟩:=hSw
         go_simp
         with_reducible rfl
        case rq17 =>
        simp only [List.set_cons_zero,List.set_cons_succ]
        refine take1 (i:=18) (v:=?vq18) rfl rfl (by kernel_rfl) (by kernel_rfl) (by kernel_rfl) (fun _ _ _ h => h) (Or.inl ⟨by kernel_rfl,?yq18⟩) hHeld ?rq18
        case yq18 =>
         intro w' hSw
         obtain ⟨hSw0,hSw1,hSw2,hSw3,hSw4,hSw5⟩:=hSw
         go_simp
         with_reducible rfl
        case rq18 =>
        simp only [List.set_cons_zero,List.set_cons_succ]
        refine take1 (i:=19) (v:=?vq19) rfl rfl (by kernel_rfl) (by kernel_rfl) (by kernel_rfl) (fun _ _ _ h => h) (Or.inl ⟨by kernel_rfl,?yq19⟩) hHeld ?rq19
        case yq19 =>
         intro w' hSw
         obtain ⟨hSw0,hSw1,hSw2,hSw3,hSw4,hSw5⟩:=hSw
         go_simp
         with_reducible rfl
        case rq19 =>
        simp only [List.set_cons_zero,List.set_cons_succ]
        refine ready1 (i:=14) (by kernel_rfl) rfl (by kernel_rfl) (fun K hK => ?_)
        go_simp
        refine (ft_num _ x0 x1 ok0).mono ?_
        rintro e wa ⟨hka,ua,rfl,fa⟩
        have KT:=KT.trans hka
        have KR:=KR.trans hka
        refine hK.out _ _ (sS.out _ KR) (fun hHeld => ?_)
        clear hK K hka
        refine ready1 (i:=20) (by kernel_rfl) rfl (by kernel_rfl) (fun K hK => ?_)
        go_simp
        refine (ft_num _ y0 y1 ok1).mono ?_
        rintro e wb ⟨hkb,ub,rfl,fb⟩
        have KT:=KT.trans hkb
        have KR:=KR.trans hkb
        have fa:=fa.kept hkb
        refine hK.out _ _ (sS.out _ KR) (fun hHeld => ?_)
        clear hK K hkb
        refine ready1 (i:=21) (by kernel_rfl) rfl (by kernel_rfl) (fun K hK => ?_)
        go_simp
        refine (ft_held _ fa fb (by decide)).mono ?_
        rintro e wd ⟨hkd,rfl⟩
        have KT:=KT.trans hkd
        have KR:=KR.trans hkd
        obtain ⟨ig,hig⟩:∃ ig,ig = isgn (U x0 x1) (U y0 y1):=⟨_,rfl⟩
        rw [← hig]
        have HIG:=hid' hig
        refine hK.out _ _ (sS.out _ KR) (fun hHeld => ?_)
        clear hK K hkd fa fb hig
        by_cases hg:0≤ig
        ·
         have hg':(0:Int)≤ig:=hg
         refine take1 (i:=22) (v:=?vq20) rfl rfl (by kernel_rfl) (by kernel_rfl) (by kernel_rfl) (fun _ _ _ h => h) (Or.inl ⟨by kernel_rfl,?yq20⟩) hHeld ?rq20
         case yq20 =>
          intro w' hSw
          obtain ⟨hSw0,hSw1,hSw2,hSw3,hSw4,hSw5⟩:=hSw
          go_simp
          with_reducible rfl
         case rq20 =>
         simp only [List.set_cons_zero,List.set_cons_succ]
         refine take1 (i:=23) (v:=?vq21) rfl rfl (by kernel_rfl) (by kernel_rfl) (by kernel_rfl) (fun _ _ _ h => h) (Or.inl ⟨by kernel_rfl,?yq21⟩) hHeld ?rq21
         case yq21 =>
          intro w' hSw
          obtain ⟨hSw0,hSw1,hSw2,hSw3,hSw4,hSw5⟩:=hSw
          go_simp
          with_reducible rfl
         case rq21 =>
         simp only [List.set_cons_zero,List.set_cons_succ]
         refine wpAnyH_done (by kernel_rfl) ?_ _
         have HT:=hid' KT
         clear sS hHeld KR KT
         go_wp2_with fail
         go_ret
         refine ⟨HB.out.1.trans HT.out,congrArg (fun b => Ending.returned (Value.bool b)) ?_⟩
         symm
         rw [Bool.eq_false_iff]
         intro hok
         have hr:=(okM_all hok).2.2.1
         unfold riseN at hr
         have:=of_decide_eq_true hr j (by have:=HL.out; omega)
         rw [← HX.out.1,← HX.out.2] at this
         have h2:=HIG.out
         have h3:=isgn_neg (a:=U x0 x1) (b:=U y0 y1)
         dsimp only at this
         rw [← h2] at h3
         have:=h3.2 this
         omega
        ·
         have hg':¬ (0:Int)≤ig:=hg
         refine take1 (i:=22) (v:=?vq22) rfl rfl (by kernel_rfl) (by kernel_rfl) (by kernel_rfl) (fun _ _ _ h => h) (Or.inl ⟨by kernel_rfl,?yq22⟩) hHeld ?rq22
         case yq22 =>
          intro w' hSw
          obtain ⟨hSw0,hSw1,hSw2,hSw3,hSw4,hSw5⟩:=hSw
          go_simp
          with_reducible rfl
         case rq22 =>
         simp only [List.set_cons_zero,List.set_cons_succ]
         refine take1 (i:=23) (v:=?vq23) rfl rfl (by kernel_rfl) (by kernel_rfl) (by kernel_rfl) (fun _ _ _ h => h) (Or.inl ⟨by kernel_rfl,?yq23⟩) hHeld ?rq23
         case yq23 =>
          intro w' hSw
          obtain ⟨hSw0,hSw1,hSw2,hSw3,hSw4,hSw5⟩:=hSw
          go_simp
          with_reducible rfl
         case rq23 =>
         simp only [List.set_cons_zero,List.set_cons_succ]
         refine wpAnyH_done (by kernel_rfl) ?_ _
         have HT:=hid' KT
         clear sS hHeld KR KT
         have HIL:=hid' (show U x0 x1 < U y0 y1 by
          have h2:=HIG.out
          have h3:=isgn_neg (a:=U x0 x1) (b:=U y0 y1)
          rw [← h2] at h3
          exact h3.1 (by omega))
         go_wp2_with fail
         go_roundw
         case rel =>
          refine ⟨j + 1 + 1,by omega,by push_cast; go_num,HT.out,fun i hi => ?_,fun hk i hi => ?_⟩
          ·
           by_cases e:i = j + 1
           ·
            subst e; exact HO1.out
           ·
            exact H.out.2.1 i (by omega)
          ·
           by_cases e:i = j
           ·
            subst e
            rw [← HX.out.1,← HX.out.2]
            exact HIL.out
           ·
            exact H.out.2.2 hk i (by omega)
         case measure => show m - ((j:Int) + 1 + 1).toNat < m - ((j:Int) + 1).toNat; omega
      ·
       have hkb:(k == 100) = false:=by simpa using hkd
       have KR:Kept W7 W7.drew:=(Kept.refl _).drew
       have e1:=(HB.out.2.kept HK7.out).c1
       have hml:=(HB.out.2.kept HK7.out).lt
       have sS:=hid' (fun (V:World) (K:Kept W7 V) => (show V.cell? ⟨p,1,none⟩ = some (.int .u8 k) from (Below.cell K (p:=⟨p,1,none⟩) hml).trans e1))
       clear e1 hml
       go_upto_region 13 with fail
       refine wp_region_held_drew (S:=fun w' => w'.cell? ⟨p,1,none⟩ = some (.int .u8 k)) (by kernel_rfl) (sS.out _ KR) (fun hHeld => ?_)
       generalize W7.drew = Wd at KR hHeld ⊢
       refine take1 (i:=0) (v:=?vzi3) rfl rfl (by kernel_rfl) (by kernel_rfl) (by kernel_rfl) (fun _ _ _ h => h) (Or.inl ⟨by kernel_rfl,?yzi3⟩) hHeld ?rzi3
       case yzi3 =>
        intro w' hSw
        have hSw0:=hSw
        go_simp
        with_reducible rfl
       case rzi3 =>
       simp only [List.set_cons_zero,List.set_cons_succ]
       refine take1 (i:=1) (v:=?vzi4) rfl rfl (by kernel_rfl) (by kernel_rfl) (by kernel_rfl) (fun _ _ _ h => h) (Or.inl ⟨by kernel_rfl,?yzi4⟩) hHeld ?rzi4
       case yzi4 =>
        intro w' hSw
        have hSw0:=hSw
        go_simp
        with_reducible rfl
       case rzi4 =>
       simp only [List.set_cons_zero,List.set_cons_succ]
       refine take1 (i:=2) (v:=?vzi5) rfl rfl (by kernel_rfl) (by kernel_rfl) (by kernel_rfl) (fun _ _ _ h => h) (Or.inl ⟨by kernel_rfl,?yzi5⟩) hHeld ?rzi5
       case yzi5 =>
        intro w' hSw
        have hSw0:=hSw
        go_simp
        with_reducible rfl
       case rzi5 =>
       simp only [List.set_cons_zero,List.set_cons_succ]
       refine take1 (i:=3) (v:=?vzi6) rfl rfl (by kernel_rfl) (by kernel_rfl) (by kernel_rfl) (fun _ _ _ h => h) (Or.inl ⟨by kernel_rfl,?yzi6⟩) hHeld ?rzi6
       case yzi6 =>
        intro w' hSw
        have hSw0:=hSw
        go_simp
        with_reducible rfl
       case rzi6 =>
       simp only [List.set_cons_zero,List.set_cons_succ]
       refine take1 (i:=4) (v:=undef) rfl rfl (by kernel_rfl) (by kernel_rfl) (by kernel_rfl) (fun _ _ _ h => h) (Or.inr ⟨by kernel_rfl,rfl⟩) hHeld ?rzi1
       case rzi1 =>
       simp only [List.set_cons_zero,List.set_cons_succ]
       refine take1 (i:=5) (v:=undef) rfl rfl (by kernel_rfl) (by kernel_rfl) (by kernel_rfl) (fun _ _ _ h => h) (Or.inr ⟨by kernel_rfl,rfl⟩) hHeld ?rzi2
       case rzi2 =>
       simp only [List.set_cons_zero,List.set_cons_succ]
       refine take1 (i:=6) (v:=?vzi7) rfl rfl (by kernel_rfl) (by kernel_rfl) (by kernel_rfl) (fun _ _ _ h => h) (Or.inl ⟨by kernel_rfl,?yzi7⟩) hHeld ?rzi7
       case yzi7 =>
        intro w' hSw
        have hSw0:=hSw
        go_simp
        with_reducible rfl
       case rzi7 =>
       simp only [List.set_cons_zero,List.set_cons_succ]
       refine take1 (i:=7) (v:=?vzi8) rfl rfl (by kernel_rfl) (by kernel_rfl) (by kernel_rfl) (fun _ _ _ h => h) (Or.inl ⟨by kernel_rfl,?yzi8⟩) hHeld ?rzi8
       case yzi8 =>
        intro w' hSw
        have hSw0:=hSw
        go_simp
        with_reducible rfl
       case rzi8 =>
       simp only [List.set_cons_zero,List.set_cons_succ]
       refine take1 (i:=8) (v:=undef) rfl rfl (by kernel_rfl) (by kernel_rfl) (by kernel_rfl) (fun _ _ _ h => h) (Or.inr ⟨by kernel_rfl,rfl⟩) hHeld ?rzi9
       case rzi9 =>
       simp only [List.set_cons_zero,List.set_cons_succ]
       refine take1 (i:=9) (v:=undef) rfl rfl (by kernel_rfl) (by kernel_rfl) (by kernel_rfl) (fun _ _ _ h => h) (Or.inr ⟨by kernel_rfl,rfl⟩) hHeld ?rzi10
       case rzi10 =>
       simp only [List.set_cons_zero,List.set_cons_succ]
       refine take1 (i:=10) (v:=undef) rfl rfl (by kernel_rfl) (by kernel_rfl) (by kernel_rfl) (fun _ _ _ h => h) (Or.inr ⟨by kernel_rfl,rfl⟩) hHeld ?rzi11
       case rzi11 =>
       simp only [List.set_cons_zero,List.set_cons_succ]
       refine take1 (i:=11) (v:=undef) rfl rfl (by kernel_rfl) (by kernel_rfl) (by kernel_rfl) (fun _ _ _ h => h) (Or.inr ⟨by kernel_rfl,rfl⟩) hHeld ?rzi12
       case rzi12 =>
       simp only [List.set_cons_zero,List.set_cons_succ]
       refine take1 (i:=12) (v:=undef) rfl rfl (by kernel_rfl) (by kernel_rfl) (by kernel_rfl) (fun _ _ _ h => h) (Or.inr ⟨by kernel_rfl,rfl⟩) hHeld ?rzi13
       case rzi13 =>
       simp only [List.set_cons_zero,List.set_cons_succ]
       refine take1 (i:=13) (v:=undef) rfl rfl (by kernel_rfl) (by kernel_rfl) (by kernel_rfl) (fun _ _ _ h => h) (Or.inr ⟨by kernel_rfl,rfl⟩) hHeld ?rzi14
       case rzi14 =>
       simp only [List.set_cons_zero,List.set_cons_succ]
       refine take1 (i:=14) (v:=undef) rfl rfl (by kernel_rfl) (by kernel_rfl) (by kernel_rfl) (fun _ _ _ h => h) (Or.inr ⟨by kernel_rfl,rfl⟩) hHeld ?rzi15
       case rzi15 =>
       simp only [List.set_cons_zero,List.set_cons_succ]
       refine take1 (i:=15) (v:=undef) rfl rfl (by kernel_rfl) (by kernel_rfl) (by kernel_rfl) (fun _ _ _ h => h) (Or.inr ⟨by kernel_rfl,rfl⟩) hHeld ?rzi16
       case rzi16 =>
       simp only [List.set_cons_zero,List.set_cons_succ]
       refine take1 (i:=16) (v:=undef) rfl rfl (by kernel_rfl) (by kernel_rfl) (by kernel_rfl) (fun _ _ _ h => h) (Or.inr ⟨by kernel_rfl,rfl⟩) hHeld ?rzi17
       case rzi17 =>
       simp only [List.set_cons_zero,List.set_cons_succ]
       refine take1 (i:=17) (v:=undef) rfl rfl (by kernel_rfl) (by kernel_rfl) (by kernel_rfl) (fun _ _ _ h => h) (Or.inr ⟨by kernel_rfl,rfl⟩) hHeld ?rzi18
       case rzi18 =>
       simp only [List.set_cons_zero,List.set_cons_succ]
       refine take1 (i:=18) (v:=undef) rfl rfl (by kernel_rfl) (by kernel_rfl) (by kernel_rfl) (fun _ _ _ h => h) (Or.inr ⟨by kernel_rfl,rfl⟩) hHeld ?rzi19
       case rzi19 =>
       simp only [List.set_cons_zero,List.set_cons_succ]
       refine take1 (i:=19) (v:=undef) rfl rfl (by kernel_rfl) (by kernel_rfl) (by kernel_rfl) (fun _ _ _ h => h) (Or.inr ⟨by kernel_rfl,rfl⟩) hHeld ?rzi20
       case rzi20 =>
       simp only [List.set_cons_zero,List.set_cons_succ]
       refine take1 (i:=20) (v:=undef) rfl rfl (by kernel_rfl) (by kernel_rfl) (by kernel_rfl) (fun _ _ _ h => h) (Or.inr ⟨by kernel_rfl,rfl⟩) hHeld ?rzi21
       case rzi21 =>
       simp only [List.set_cons_zero,List.set_cons_succ]
       refine take1 (i:=21) (v:=undef) rfl rfl (by kernel_rfl) (by kernel_rfl) (by kernel_rfl) (fun _ _ _ h => h) (Or.inr ⟨by kernel_rfl,rfl⟩) hHeld ?rzi22
       case rzi22 =>
       simp only [List.set_cons_zero,List.set_cons_succ]
       refine take1 (i:=22) (v:=undef) rfl rfl (by kernel_rfl) (by kernel_rfl) (by kernel_rfl) (fun _ _ _ h => h) (Or.inr ⟨by kernel_rfl,rfl⟩) hHeld ?rzi23
       case rzi23 =>
       simp only [List.set_cons_zero,List.set_cons_succ]
       refine take1 (i:=23) (v:=?vzi24) rfl rfl (by kernel_rfl) (by kernel_rfl) (by kernel_rfl) (fun _ _ _ h => h) (Or.inl ⟨by kernel_rfl,?yzi24⟩) hHeld ?rzi24
       case yzi24 =>
        intro w' hSw
        have hSw0:=hSw
        go_simp
        with_reducible rfl
       case rzi24 =>
       simp only [List.set_cons_zero,List.set_cons_succ]
       refine wpAnyH_done (by kernel_rfl) ?_ _
       have HKR:=hid' KR
       clear sS hHeld KR
       go_wp2_with fail
       go_roundw
       case rel =>
        refine ⟨i + 1,by omega,by go_num,HK7.out.trans HKR.out,(fun l hl => ?_),fun h => absurd h hkd⟩
        by_cases e:l = i
        ·
         subst e; exact HO1'.out.symm
        ·
         exact H.out.2.1 l (by omega)
       case measure => show m - ((i:Int) + 1).toNat < m - (i:Int).toNat; omega
    ·
     obtain rfl:i = m:=by omega
     have hltm:¬ (i:Int) < (i:Int):=by omega
     have HV:=hid' (And.intro (fun l (hl:l < vs.length) => H.out.2.1 l (by have:=HL.out; omega)) (fun (hk:k = 100) l (hl:l < vs.length - 1) => H.out.2.2 hk l (by have:=HL.out; omega)))
     have HB:=hid' (And.intro (HB.out.1.trans H.out.1) (HB.out.2.kept H.out.1))
     have HA:=hid' (show okM s.data.toList k gs vs = (fitsM k j i && riseN vs) by
      unfold okM
      rw [← HB1.out,← HL.out.1,← HL.out.2,allN_of HG.out,allN_of HV.out.1]
      simp)
     have HR:=hid' (fun (hk:k = 100) => (show riseN vs = true from decide_eq_true (HV.out.2 hk)))
     clear H hlt HV
     have e1:=HB.out.2.c1
     have e2:=HB.out.2.c2
     by_cases hk1:k = 115
     ·
      have hkb:(k == 115) = true:=by simpa using hk1
      by_cases hn2:j = 2
      ·
       have hn2':(((j:Nat):Int) == 2) = true:=by simp [hn2]
       by_cases hm1:i = 1
       ·
        have hm1':(((i:Nat):Int) == 1) = true:=by simp [hm1]
        have HF:=hid' (show okM s.data.toList k gs vs = true by
         rw [HA.out]
         have:riseN vs = true:=decide_eq_true (fun l hl => by have:=HL.out; omega)
         rw [this]; unfold fitsM; rw [if_neg (by omega),if_pos hk1]; simp [hn2,hm1])
        clear hn2 hm1 hk1
        go_wp2_with fail
        go_ret
        exact ⟨HB.out.1,by rw [HF.out]; rfl⟩
       ·
        have hm1':(((i:Nat):Int) == 1) = false:=by simp; omega
        have HF:=hid' (show okM s.data.toList k gs vs = false by
         rw [HA.out]; unfold fitsM; rw [if_neg (by omega),if_pos hk1]; simp [hm1])
        clear hn2 hm1 hk1
        go_wp2_with fail
        go_ret
        exact ⟨HB.out.1,by rw [HF.out]; rfl⟩
      ·
       have hn2':(((j:Nat):Int) == 2) = false:=by simp; omega
       have HF:=hid' (show okM s.data.toList k gs vs = false by
        rw [HA.out]; unfold fitsM; rw [if_neg (by omega),if_pos hk1]; simp [hn2])
       clear hn2 hk1
       go_wp2_with fail
       go_ret
       exact ⟨HB.out.1,by rw [HF.out]; rfl⟩
     ·
      have hkb:(k == 115) = false:=by simpa using hk1
      by_cases hk2:k = 100
      ·
       have hkb2:(k == 100) = true:=by simpa using hk2
       have HRT:=hid' (HR.out hk2)
       by_cases g1:1≤j
       ·
        have g1':(1:Int)≤(j:Int):=by omega
        by_cases g2:j≤4
        ·
         have g2':(j:Int)≤4:=by omega
         by_cases g3:i + 1 = j
         ·
          have g3':((i:Int) + 1 == (j:Int)) = true:=by simp; omega
          have HF:=hid' (show okM s.data.toList k gs vs = true by
           rw [HA.out,HRT.out]; unfold fitsM; rw [if_pos hk2]; simp; omega)
          clear g1 g2 g3 hk1 hk2
          go_wp2_with fail
          go_ret
          exact ⟨HB.out.1,by rw [HF.out]; rfl⟩
         ·
          have g3':((i:Int) + 1 == (j:Int)) = false:=by simp; omega
          have HF:=hid' (show okM s.data.toList k gs vs = false by
           rw [HA.out,HRT.out]; unfold fitsM; rw [if_pos hk2]; simp; omega)
          clear g1 g2 g3 hk1 hk2
          go_wp2_with fail
          go_ret
          exact ⟨HB.out.1,by rw [HF.out]; rfl⟩
        ·
         have g2':¬ (j:Int)≤4:=by omega
         have HF:=hid' (show okM s.data.toList k gs vs = false by
          rw [HA.out,HRT.out]; unfold fitsM; rw [if_pos hk2]; simp; omega)
         clear g1 g2 hk1 hk2
         go_wp2_with fail
         go_ret
         exact ⟨HB.out.1,by rw [HF.out]; rfl⟩
       ·
        have g1':¬ (1:Int)≤(j:Int):=by omega
        have HF:=hid' (show okM s.data.toList k gs vs = false by
         rw [HA.out,HRT.out]; unfold fitsM; rw [if_pos hk2]; simp; omega)
        clear g1 hk1 hk2
        go_wp2_with fail
        go_ret
        exact ⟨HB.out.1,by rw [HF.out]; rfl⟩
      ·
       have hkb2:(k == 100) = false:=by simpa using hk2
       have HF:=hid' (show okM s.data.toList k gs vs = false by
        rw [HA.out]; unfold fitsM; rw [if_neg hk2,if_neg hk1]; rfl)
       clear hk1 hk2
       go_wp2_with fail
       go_ret
       exact ⟨HB.out.1,by rw [HF.out]; rfl⟩
end V
end Go.Proofs.YthfbfbfambbkaaaGreatDoor

namespace Go.Proofs.YthfbfbfambbkaaaGreatDoor
open Go.RowKit
namespace V
open Q (hid' Row3 Row2 okN okN_bd Scl)
set_option maxRecDepth 100000 in
set_option maxHeartbeats 4000000 in
theorem rfaultM_any (s:ByteArray) (k:Int) (a1 a2:Option Addr) (n c m c':Nat) (gs vs:List (Int × Int)) (i:Int) (w:World) (hs:s.size≤9223372036854775807) (h1:NSl w (.slice a1 n c) gs) (h2:NSl w (.slice a2 m c') vs) (hn:n≤4611686018427387903) (hm:m≤4611686018427387903) :
  Calls Tryz.prog 20 #[.agg #[.string s,.int .u8 k,.slice a1 n c,.slice a2 m c'],.int .i64 i] w fun e w' => Kept w w'∧e = .returned (.int .i64 (refM s.data.toList k gs vs i)):=by
 have hv:=rvalidM_any s k a1 a2 n c m c' gs vs
 have HS:=hid' (And.intro h1 h2)
 have HO:=hid' (show refM s.data.toList k gs vs i = if okM s.data.toList k gs vs = true then if i < 0 ∨ (n:Int)≤i then 111 else 0 else 50 by unfold refM; rw [h1.len])
 generalize refM s.data.toList k gs vs i = r at HO ⊢
 obtain ⟨ok,hok⟩:∃ ok,ok = okM s.data.toList k gs vs:=⟨_,rfl⟩
 rw [← hok] at HO hv
 clear h1 h2 hok
 go_enter Tryz.func20,Tryz.ntmps20
 go_upto_region 1 with fail
 have hK:=(Kept.refl w).alloc (.cells #[.string s,.int .u8 k,.slice a1 n c,.slice a2 m c'] 24)
 have hR:=Row4.alloc 24 w (.string s) (.int .u8 k) (.slice a1 n c) (.slice a2 m c')
 generalize w.alloc (.cells #[.string s,.int .u8 k,.slice a1 n c,.slice a2 m c'] 24) = W at hK hR ⊢
 obtain ⟨p1,hp1⟩:∃ p,p = w.heap.size:=⟨_,rfl⟩
 rw [← hp1] at hR ⊢
 have HK:=hid' (And.intro hK hR)
 have q0:=hR.c0
 have q1:=hR.c1
 have q2:=hR.c2
 have q3:=hR.c3
 clear hp1 hK hR
 go_wp2_with fail
 refine (hv _ hs (HS.out.1.kept HK.out.1) (HS.out.2.kept HK.out.1) hn hm).mono ?_
 rintro e w1 ⟨hk1,rfl⟩
 have HK1:=hid' (And.intro (HK.out.1.trans hk1) (HK.out.2.kept hk1))
 clear hk1 q0 q1 q2 q3 HK hv
 have q2:=HK1.out.2.c2
 cases ok
 ·
  go_wp2_with fail
  go_ret
  exact ⟨HK1.out.1,by rw [HO.out]; rfl⟩
 ·
  by_cases hi0:i < 0
  ·
   have HR:=hid' (show r = 111 by rw [HO.out,if_pos rfl,if_pos (.inl hi0)])
   go_wp2_with fail
   go_ret
   exact ⟨HK1.out.1,by rw [HR.out]; rfl⟩
  ·
   have hw:IntKind.i64.wrap ((n:Int) - 1) = (n:Int) - 1:=by rw [IntKind.wrap_i64]; omega
   by_cases hi1:(n:Int)≤i
   ·
    have HR:=hid' (show r = 111 by rw [HO.out,if_pos rfl,if_pos (.inr hi1)])
    have hi2:(n:Int) - 1 < i:=by omega
    go_wp2_with fail
    go_ret
    exact ⟨HK1.out.1,by rw [HR.out]; rfl⟩
   ·
    have HR:=hid' (show r = 0 by rw [HO.out,if_pos rfl,if_neg (by omega)])
    have hi2:¬ (n:Int) - 1 < i:=by omega
    go_wp2_with fail
    go_ret
    exact ⟨HK1.out.1,by rw [HR.out]; rfl⟩
end V
end Go.Proofs.YthfbfbfambbkaaaGreatDoor

namespace Go.Proofs.YthfbfbfambbkaaaGreatDoor
open Go.RowKit
namespace V
open Q (hid' Row3 Row2 okN)
set_option maxRecDepth 100000 in
set_option maxHeartbeats 4000000 in
theorem same3_any (a b:Option Addr) (n c c':Nat) (vs:List (Int × Int)) (w:World) (h1:NSl w (.slice a n c) vs) (h2:NSl w (.slice b n c') vs) (hn:n≤9223372036854775807) :
  Calls Tryz.prog 48 #[.slice a n c,.slice b n c'] w fun e w' => Kept w w'∧e = .returned (.bool true):=by
 have HS:=hid' (And.intro h1 h2)
 clear h1 h2
 go_enter Tryz.func48,Tryz.ntmps48
 go_wp2_with fail
 go_loopw [5] (fun vi wr => ∃ j:Nat,j≤n∧vi = .int .i64 (j:Int)∧Hid (Kept w wr)) (fun vi _ => n - (intOf vi).toNat)
 case atStart => exact ⟨0,Nat.zero_le _,rfl,Kept.refl w⟩
 case round =>
  obtain ⟨j,hj,rfl,I⟩:=hrel
  by_cases hlt:j < n
  ·
   have hltz:(j:Int) < (n:Int):=by omega
   obtain ⟨ao1,cap1,hv1,hx1⟩:=HS.out.1.kept I.out
   simp only [Value.slice.injEq] at hv1
   obtain ⟨rfl,hl1,rfl⟩:=hv1
   obtain ⟨b1,o1,rfl,hb1,hc1⟩:=hx1 (by omega)
   obtain ⟨ao2,cap2,hv2,hx2⟩:=HS.out.2.kept I.out
   simp only [Value.slice.injEq] at hv2
   obtain ⟨rfl,hl2,rfl⟩:=hv2
   obtain ⟨b2,o2,rfl,hb2,hc2⟩:=hx2 (by omega)
   obtain ⟨u0,u1⟩:=hc1 j (by omega)
   obtain ⟨v0,v1⟩:=hc2 j (by omega)
   clear hx1 hc1 hb1 hl1 hx2 hc2 hb2 hl2
   generalize vs.getD j (0,0) = y at u0 u1 v0 v1
   obtain ⟨y0,y1⟩:=y
   dsimp only at u0 u1 v0 v1
   go_wp2_with fail
   go_quiet (fail)
   go_wp2_with fail
   go_roundw
   case rel => exact ⟨j + 1,by omega,by go_num,I.out.drewN _⟩
   case measure => show n - ((j:Int) + 1).toNat < n - (j:Int).toNat; omega
  ·
   obtain rfl:j = n:=by omega
   have hltz:¬ (j:Int) < (j:Int):=by omega
   go_wp2_with fail
   go_ret
   exact ⟨I.out,rfl⟩
set_option maxRecDepth 100000 in
set_option maxHeartbeats 4000000 in
theorem same5_any (s:ByteArray) (k:Int) (a1 a2 b1 b2:Option Addr) (n c m c' d d':Nat) (gs vs:List (Int × Int)) (w:World) (h1:NSl w (.slice a1 n c) gs) (h2:NSl w (.slice a2 m c') vs) (h3:NSl w (.slice b1 n d) gs) (h4:NSl w (.slice b2 m d') vs) (hn:n≤4611686018427387903) (hm:m≤4611686018427387903) :
  Calls Tryz.prog 19 #[.agg #[.string s,.int .u8 k,.slice a1 n c,.slice a2 m c'],.agg #[.string s,.int .u8 k,.slice b1 n d,.slice b2 m d']] w fun e w' => Kept w w'∧e = .returned (.bool true):=by
 have HS:=hid' (And.intro h1 (And.intro h2 (And.intro h3 h4)))
 clear h1 h2 h3 h4
 go_enter Tryz.func19,Tryz.ntmps19
 go_upto_region 1 with fail
 have hA:=(Row4.alloc 24 w (.string s) (.int .u8 k) (.slice a1 n c) (.slice a2 m c')).kept ((Kept.refl (w.alloc (.cells #[.string s,.int .u8 k,.slice a1 n c,.slice a2 m c'] 24))).alloc (.cells #[.string s,.int .u8 k,.slice b1 n d,.slice b2 m d'] 24))
 have hB:=Row4.alloc 24 (w.alloc (.cells #[.string s,.int .u8 k,.slice a1 n c,.slice a2 m c'] 24)) (.string s) (.int .u8 k) (.slice b1 n d) (.slice b2 m d')
 have hK:=(((Kept.refl w).alloc (.cells #[.string s,.int .u8 k,.slice a1 n c,.slice a2 m c'] 24)).alloc (.cells #[.string s,.int .u8 k,.slice b1 n d,.slice b2 m d'] 24))
 simp only [World.size_alloc] at hB
 generalize (w.alloc (.cells #[.string s,.int .u8 k,.slice a1 n c,.slice a2 m c'] 24)).alloc (.cells #[.string s,.int .u8 k,.slice b1 n d,.slice b2 m d'] 24) = W at hA hB hK ⊢
 obtain ⟨q,hqq⟩:∃ q,q = w.heap.size + 1:=⟨_,rfl⟩
 rw [← hqq] at hB ⊢
 obtain ⟨p,hqp⟩:∃ q,q = w.heap.size:=⟨_,rfl⟩
 rw [← hqp] at hA ⊢
 clear hqp hqq
 have HK:=hid' (And.intro hK (And.intro hA hB))
 have u0:=hA.c0
 have u1:=hA.c1
 have u2:=hA.c2
 have v0:=hB.c0
 have v1:=hB.c1
 have v2:=hB.c2
 clear hK hA hB
 go_wp2_with fail
 refine (same3_any _ _ n _ _ gs _ (HS.out.1.kept HK.out.1) (HS.out.2.2.1.kept HK.out.1) (by omega)).mono ?_
 rintro e w1 ⟨hk1,rfl⟩
 have HK:=hid' (And.intro (HK.out.1.trans hk1) (And.intro (HK.out.2.1.kept hk1) (HK.out.2.2.kept hk1)))
 clear hk1 u0 u1 u2 v0 v1 v2
 have u3:=HK.out.2.1.c3
 have v3:=HK.out.2.2.c3
 go_wp2_with fail
 refine (same3_any _ _ m _ _ vs _ (HS.out.2.1.kept HK.out.1) (HS.out.2.2.2.kept HK.out.1) (by omega)).mono ?_
 rintro e w2 ⟨hk2,rfl⟩
 have HK:=hid' (HK.out.1.trans hk2)
 clear hk2 u3 v3
 go_wp2_with fail
 go_ret
 exact ⟨HK.out,rfl⟩
end V
end Go.Proofs.YthfbfbfambbkaaaGreatDoor

namespace Go.Proofs.YthfbfbfambbkaaaGreatDoor
open Go.RowKit
namespace V
open Q (hid' Row3 Row2 okN)
section
variable {P:Program} {ops:Array Oper} {Q:Exit→Act→World→Prop} {md:Region.Mode} {S:World→Prop} {z:Nat}
def anyZ (P:Program) (md:Region.Mode) (ops:Array Oper) (Q:Exit→Act→World→Prop) (S:World→Prop) (z:Nat):Nat→Array Bool→Act→World→Prop
 | 0,ls,a,w => Region.ready md ops ls = []∧Q .normal a w
 | f + 1,ls,a,w => (Region.ready md ops ls = []→Q .normal a w)∧∀ i ∈ Region.ready md ops ls,wpOp P ops Q i (fun a' w' => (i ≠ z→S w')∧anyZ P md ops Q S z f (ls.setIfInBounds i true) a' w') a w
theorem any_of_z:∀ (f:Nat) (ls:Array Bool) (a:Act) (w:World),anyZ P md ops Q S z f ls a w→wpAny P md ops Q f ls a w
 | 0,_,_,_,h => h
 | f + 1,_,_,_,h => ⟨h.1,fun i hi => wpOp_mono (fun a' w' h' => any_of_z f _ a' w' h'.2) (h.2 i hi)⟩
def zwait (md:Region.Mode) (ops:Array Oper) (z i:Nat):Bool :=
 match ops[z]? with
 | some o => o.after.any (fun e => Region.binds md e && e.on == i)
 | none => false
theorem not_listed {i:Nat} {ls:Array Bool} (h:ls.getD i true = false):ls.getD i false = false:=by
 rcases Nat.lt_or_ge i ls.size with h' | h'
 ·
  simp [h'] at h ⊢; exact h
 ·
  simp [Array.getElem?_eq_none h'] at h
theorem zwait_not {i:Nat} {ls:Array Bool} (h:zwait md ops z i = true) (hun:ls.getD i true = false):¬ z ∈ Region.ready md ops ls:=by
 intro hz
 obtain ⟨_,o,ho,hall⟩:=mem_ready.1 hz
 simp only [zwait,ho] at h
 obtain ⟨e,he,hb⟩:=Array.any_eq_true'.1 h
 simp only [Bool.and_eq_true,beq_iff_eq] at hb
 have:=hall e he hb.1
 rw [hb.2,not_listed hun] at this
 cases this
theorem anyZ_first {i:Nat} {oi:Oper} {v:Value} (hi:ops[i]? = some oi) (hs:Region.noSelect ops = true) (hw:zwait md ops z i = true)
  (hQ:∀ c a w,Q (.panic c) (a.put oi.dst v) w→Q (.panic c) a w):∀ (f:Nat) (ls:Array Bool) (a:Act) (w:World),
   (∀ j oj,ops[j]? = some oj→j ≠ i→ls.getD j true = false→(∀ e ∈ oj.after,Region.binds md e = true→e.on ≠ i)→oi.apart ops oj = true) →
   i ∈ Region.ready md ops ls→YieldsIf P ops S oi v a→S w →
   anyZ P md ops Q S z f (ls.setIfInBounds i true) (a.put oi.dst v) w→anyZ P md ops Q S z (f + 1) ls a w:=by
 intro f
 induction f with
 | zero =>
  intro ls a w _ hr hy hS H
  refine ⟨fun h => absurd hr (by rw [h]; simp),fun j hj => ?_⟩
  by_cases hji:j = i
  ·
   subst hji
   exact hy.wpOp hi hS ⟨fun _ => hS,H⟩
  ·
   exact absurd (ready_mono hj hji) (by rw [H.1]; simp)
 | succ f ih =>
  intro ls a w hfree hr hy hS H
  have hun:=(mem_ready.1 hr).1
  refine ⟨fun h => absurd hr (by rw [h]; simp),fun j hj => ?_⟩
  by_cases hji:j = i
  ·
   subst hji
   exact hy.wpOp hi hS ⟨fun _ => hS,H⟩
  have hjz:j ≠ z:=fun e => zwait_not hw hun (e ▸ hj)
  obtain ⟨hjun,oj,hoj,hall⟩:=mem_ready.1 hj
  have hap:=hfree j oj hoj hji hjun (fun e he hb heq => by
   have h1:=hall e he hb
   rw [heq,not_listed hun] at h1
   cases h1)
  refine wpOp_mono (fun a' w' h3 => ⟨fun _ => h3.2.1 hjz,ih _ a' w' (fun k ok hk hki hku hno => hfree k ok hk hki ?_ hno) (ready_mono hr (Ne.symm hji)) h3.1 (h3.2.1 hjz) ?_⟩) (wpOp_putIf hoj hap (fun cs b => Region.noSelect_spec hs i oi cs b hi) (fun cs b => Region.noSelect_spec hs j oj cs b hoj) hQ hy (H.2 j (ready_mono hj hji)))
  ·
   by_cases hjk:j = k
   ·
    subst hjk; exact hjun
   ·
    rw [getD_set_ne true hjk] at hku; exact hku
  ·
   rw [Array.setIfInBounds_comm _ _ hji]
   exact h3.2.2
theorem anyZ_take {i:Nat} {oi:Oper} {v:Value} {f:Nat} {ls:Array Bool} {a:Act} {w:World} (hi:ops[i]? = some oi)
  (hs:Region.noSelect ops = true) (hf:Region.free md ops ls i = true) (hr:(Region.ready md ops ls).contains i = true) (hw:zwait md ops z i = true)
  (hQ:∀ c a w,Q (.panic c) (a.put oi.dst v) w→Q (.panic c) a w) (hy:YieldsIf P ops S oi v a) (hS:S w)
  (h:anyZ P md ops Q S z f (ls.setIfInBounds i true) (a.put oi.dst v) w):anyZ P md ops Q S z (f + 1) ls a w :=
 anyZ_first hi hs hw hQ f ls a w (Region.free_spec hi hf) (by simpa using hr) hy hS h
def AllZ (P:Program) (md:Region.Mode) (ops:Array Oper) (Q:Exit→Act→World→Prop) (S:World→Prop) (z f:Nat) (ls:Array Bool) (a:Act) (w:World) (rs:List Nat):Prop :=
 ∀ i ∈ rs,wpOp P ops Q i (fun a' w' => (i ≠ z→S w')∧anyZ P md ops Q S z f (ls.setIfInBounds i true) a' w') a w
theorem AllZ.nil {f:Nat} {ls:Array Bool} {a:Act} {w:World}:AllZ P md ops Q S z f ls a w []:=fun _ h => by cases h
theorem AllZ.cons {f:Nat} {ls:Array Bool} {a:Act} {w:World} {i:Nat} {o:Oper} {rs:List Nat} (ho:ops[i]? = some o)
  (h:∀ K':Act→World→Prop,Shut (∀ a w,S w→(S w→anyZ P md ops Q S z f (ls.setIfInBounds i true) a w)→K' a w)→if Region.wanted o (yielded ops a.tmps) = true then Oper.wp P o a w K' Q else K' (a.put o.dst undef) w)
  (hs:AllZ P md ops Q S z f ls a w rs):AllZ P md ops Q S z f ls a w (i :: rs):=fun j hj => by
 rcases List.mem_cons.1 hj with rfl | hj
 ·
  exact wpOp_step ho (fun K' hK => h K' (fun a w hS hW => hK a w ⟨fun _ => hS,hW hS⟩))
 ·
  exact hs j hj
theorem AllZ.last {f:Nat} {ls:Array Bool} {a:Act} {w:World} {o:Oper} (ho:ops[z]? = some o)
  (h:∀ K':Act→World→Prop,Shut (∀ a w,anyZ P md ops Q S z f (ls.setIfInBounds z true) a w→K' a w)→if Region.wanted o (yielded ops a.tmps) = true then Oper.wp P o a w K' Q else K' (a.put o.dst undef) w) :
  AllZ P md ops Q S z f ls a w [z]:=fun j hj => by
 rw [List.mem_singleton] at hj
 subst hj
 exact wpOp_step ho (fun K' hK => h K' (fun a w hW => hK a w ⟨fun e => absurd rfl e,hW⟩))
theorem anyZ_ready {rs:List Nat} {f:Nat} {ls:Array Bool} {a:Act} {w:World} (hr:Region.ready md ops ls = rs) (hne:rs ≠ []) (h:AllZ P md ops Q S z f ls a w rs):anyZ P md ops Q S z (f + 1) ls a w :=
 ⟨fun h0 => absurd (hr ▸ h0) hne,hr ▸ h⟩
theorem anyZ_done {ls:Array Bool} {a:Act} {w:World} (hr:Region.ready md ops ls = []) (h:Q .normal a w):∀ f,anyZ P md ops Q S z f ls a w
 | 0 => ⟨hr,h⟩
 | _ + 1 => ⟨fun _ => h,by rw [hr]; simp⟩
theorem region_z (z:Nat) {id:Nat} {a:Act} {w:World} (hm:P.follows .mixedOrders = true) (hS:S w.drew)
  (h:S w.drew→anyZ P .any ops Q S z ops.size (Array.replicate ops.size false) a w.drew):(Code.region id ops true).wp P Q a w :=
 wp_region_any hm (any_of_z _ _ _ _ (h hS))
theorem step_src {w:World} {o:Oper} {a:Act} {K:Act→World→Prop} {E:Prop} (hgd:o.guard = none) (s x:Operand) (t:TypeId)
  (ho:o.op = .call { callee:=.builtin .append,args:=#[s,x],argTypes:=#[t,t] })
  (base:Nat) (e:TypeId) (i:TypeInfo) (zv:Value) (size bytes:Nat) (ht:P.underlying t = some (.slice e)) (hi:P.info? e = some i) (hz:i.zero = some zv)
  (hsize:i.size = size) (hby:i.bytes = bytes) (hzs:zv.cells.size = size) (hsz:0 < size)
  (g0:Nat) (hs:a.eval s = .slice (some ⟨g0,0,none⟩) 0 0) (hown:w.ownsRow base e size (.slice (some ⟨g0,0,none⟩) 0 0) 0 [])
  (ao:Option Addr) (m c:Nat) (news:List Value) (hx:a.eval x = .slice ao m c) (hl:news.length = m * size) (hnews:0 < m→∃ ad,ao = some ad∧∀ j u,news[j]? = some u→w.cell? (ad.add j) = some u) (h1:∀ u ∈ news,u.oneCell' = true)
  (h63:m≤maxLen) (hbytes:m * bytes≤140737488355328) (hbase:base≤w.heap.size)
  (h:∀ g cap w',w'.ownsRow base e size (.slice (some ⟨g,0,none⟩) m cap) m news→w.grownBy w' (some g0)→K (a.put o.dst (.slice (some ⟨g,0,none⟩) m cap)) w') :
  if Region.wanted o (yielded ops a.tmps) = true then Oper.wp P o a w K Q else E:=by
 by_cases hm:0 < m
 ·
  obtain ⟨ad,rfl,hn⟩:=hnews hm
  exact step_append_lies w hgd s x t ho base e i zv size bytes ht hi hz hsize hby hzs hsz _ 0 [] hs hown ad m c news hx hl hn h1 hm (by omega) (by rw [Nat.zero_add]; exact hbytes) hbase _ rfl (fun g cap w' h2 h3 _ _ => by
   have:=h g cap w' (by simpa using h2) h3
   rw [Nat.zero_add]
   exact this)
 ·
  obtain rfl:m = 0:=by omega
  have hn0:news = []:=List.eq_nil_of_length_eq_zero (by simpa using hl)
  subst hn0
  have hr:(Builtin.append_ #[t,t] o.type #[.slice (some ⟨g0,0,none⟩) 0 0,.slice ao 0 c]).run P w = .ok (.slice (some ⟨g0,0,none⟩) 0 0) w:=by
   cases ao <;> simp [Builtin.append_,run_underlying ht,sizeOf,typeInfo,hi,Builtin.lenOf,Builtin.firstCells,loadCells,loadCellsFrom,storeCells]
  have hw:Region.wanted o (yielded ops a.tmps) = true:=by simp [Region.wanted,hgd]
  rw [if_pos hw]
  unfold Oper.wp execOp
  simp only [ho,resolve,invoke,builtin,Sem.run_bind,Sem.run_pure,Result.andThen_ok,List.map_toArray,List.map_cons,List.map_nil,hs,hx,hr]
  exact h g0 0 w hown ⟨rfl,rfl,rfl,Nat.le_refl _,fun _ _ _ => rfl⟩
end
theorem own_nil (t:TypeId) (sz:Nat) (w:World) (B:Nat) (hB:B≤w.heap.size):(w.alloc (Obj.cells #[] t)).ownsRow B t sz (.slice (some ⟨w.heap.size,0,none⟩) 0 0) 0 []:=by
 refine ⟨by simp,.inr ⟨w.heap.size,0,#[],rfl,hB,?_,Nat.le_refl _,by unfold maxLen; omega,by simp,by simp⟩⟩
 show (w.heap.push _)[w.heap.size]? = _
 simp
theorem row_of_owns {w:World} {B:Nat} {t:TypeId} {sz g n cap:Nat} {xs:List Value} (h:w.ownsRow B t sz (.slice (some ⟨g,0,none⟩) n cap) n xs) :
  B≤g∧n≤cap∧∃ f:Nat→Value,w.rowIs g t (cap * sz) f∧∀ i v,xs[i]? = some v→f i = v:=by
 obtain ⟨h1,⟨h2,_⟩ | ⟨g',cap',cur,he,hB,hg,hn,_,hs,ht⟩⟩:=h
 ·
  cases h2
 ·
  simp only [Value.slice.injEq,Option.some.injEq,Addr.mk.injEq,and_true] at he
  obtain ⟨rfl,_,rfl⟩:=he
  refine ⟨hB,hn,fun j => (cur[j]?).getD undef,⟨cur,hg,hs,fun i hi => ?_⟩,fun i v hv => ?_⟩
  ·
   have hi':i < cur.size:=by omega
   simp [hi']
  ·
   have hl:=(List.getElem?_eq_some_iff.1 hv).1
   rw [← ht,List.getElem?_take_of_lt (by omega),Array.getElem?_toList] at hv
   show (cur[i]?).getD undef = _
   rw [hv]; rfl
theorem kept_grown {W w w':World} {g:Nat} (k:Kept W w) (hg:w.grownBy w' (some g)) (h:W.heap.size≤g):Kept W w' :=
 Below.grown k hg k.size (fun j hj => by simp only [Option.some.injEq] at hj; omega)
end V
end Go.Proofs.YthfbfbfambbkaaaGreatDoor

namespace Go.Proofs.YthfbfbfambbkaaaGreatDoor
open Go.RowKit
namespace V
open Q (hid' Row3 Row2 okN okN_bd Scl RQ)
theorem low_one {N N' A:Int} {D D' S:Nat} (hS:0 < S) (hD:0 < D) (c1:Nat.Coprime N.natAbs D) (c2:Nat.Coprime N'.natAbs D') (e:N * (S:Int) = A * D) (e':N' * (S:Int) = A * D'):N = N'∧D = D':=by
 have key:N * (D':Int) = N' * D:=by
  apply Int.eq_of_mul_eq_mul_right (show (S:Int) ≠ 0 by omega)
  calc N * D' * S = N * S * D':=Int.mul_right_comm _ _ _
   _ = A * D * D':=by rw [e]
   _ = A * D' * D:=Int.mul_right_comm _ _ _
   _ = N' * S * D:=by rw [e']
   _ = N' * D * S:=Int.mul_right_comm _ _ _
 have kn:=congrArg Int.natAbs key
 rw [Int.natAbs_mul,Int.natAbs_mul,Int.natAbs_natCast,Int.natAbs_natCast] at kn
 have d1:D ∣ D':=(Nat.Coprime.symm c1).dvd_of_dvd_mul_left (by rw [kn]; exact Nat.dvd_mul_left _ _)
 have d2:D' ∣ D:=(Nat.Coprime.symm c2).dvd_of_dvd_mul_left (by rw [← kn]; exact Nat.dvd_mul_left _ _)
 have eD:D = D':=Nat.dvd_antisymm d1 d2
 subst eD
 exact ⟨Int.eq_of_mul_eq_mul_right (show (D:Int) ≠ 0 by omega) key,rfl⟩
theorem same_rs {v v':Value} {A:Int} {S:Nat} (w:World) (h:RS w v A S) (h':RS w v' A S) (hS:0 < S):Calls Tryz.prog 16 #[v,v'] w fun e w' => Kept w w'∧e = .returned (.bool true):=by
 obtain ⟨s,ao,ap,k,c,k',c',l,l',rfl,n1,n2,r,e1⟩:=h
 obtain ⟨s',ao',ap',k1,c1,k1',c1',l1,l1',rfl,n1',n2',r',e2⟩:=h'
 obtain ⟨x1,x2⟩:=low_one hS r.vpos (by rw [M.natAbs_int]; exact r.low) (by rw [M.natAbs_int]; exact r'.low) e1 e2
 obtain ⟨rfl,rfl⟩:=M.int_inj (r.ra.right n1.1) (r'.ra.right n1'.1) x1
 obtain ⟨_,rfl⟩:=M.int_inj (r.rd.right n2.1) (r'.rd.right n2'.1) (by simp [M.int,x2])
 refine (F.same_r s false _ _ _ _ l l' w n1 n2 n1' n2' (by have:=r.ra.1; omega) (by have:=r.rd.1; omega)).mono ?_
 rintro e w' ⟨rfl,hk⟩
 exact ⟨hk,rfl⟩
end V
end Go.Proofs.YthfbfbfambbkaaaGreatDoor
