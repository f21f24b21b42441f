/- model.Find. -/
import Derived.Test.YthfbfbfambbkaaaGreatDoorGas
namespace Go.Proofs.YthfbfbfambbkaaaGreatDoor
open Go.RowKit
namespace V
open Q (hid' Row3 Row2 okN okN_bd Scl)
open Go.Sort (grow) in
set_option maxRecDepth 100000 in
set_option maxHeartbeats 4000000 in
theorem findM_any (s:ByteArray) (k:Int) (a1 a2:Option Addr) (n c m c':Nat) (gs vs:List (Int × Int)) (sg nA:Bool) (b1 b2:Option Addr) (k1 c1 k2 c2:Nat) (an ad:List Nat) (w:World) (hs:s.size<=9223372036854775807) (h1:NSl w (.slice a1 n c) gs) (h2:NSl w (.slice a2 m c') vs) (hn:n<=4611686018427387903) (hm:m<=4611686018427387903)
  (ha:Sl w (.slice b1 k1 c1) an) (had:Sl w (.slice b2 k2 c2) ad) (hla:an.length<=9223372036854775807) (hld:ad.length<=9223372036854775807) :
  Calls Tryz.prog 13 #[.agg #[.string s,.int .u8 k,.slice a1 n c,.slice a2 m c'],.agg #[.bool sg,.slice b1 k1 c1,.bool nA,.slice b2 k2 c2]] w fun e w' => Kept w w'/\∃ z f:Int,e = .returned (.tuple #[.int .i64 z,.int .i64 f])/\FindIs (okM s.data.toList k gs vs) sg nA an ad vs z f:=by
 have HS:=hid' (And.intro h1 (And.intro h2 (And.intro ha (And.intro had (And.intro hla hld)))))
 clear h1 h2 ha had hla hld
 obtain ⟨ok,hok⟩:∃ ok,ok = okM s.data.toList k gs vs:=⟨_,rfl⟩
 rw [<- hok]
 have HOE:=hid' hok
 clear hok
 go_enter Tryz.func13,Tryz.ntmps13
 go_upto_region 1 with fail
 have hM:=(Row4.alloc 24 w (.string s) (.int .u8 k) (.slice a1 n c) (.slice a2 m c')).kept ((Kept.refl (w.alloc (.cells #[.string s,.int .u8 k,.slice a1 n c,.slice a2 m c'] 24))).alloc (.cells #[.bool sg,.slice b1 k1 c1,.bool nA,.slice b2 k2 c2] 29))
 have hU:=F.RRow.alloc (w.alloc (.cells #[.string s,.int .u8 k,.slice a1 n c,.slice a2 m c'] 24)) (.bool sg) (.slice b1 k1 c1) (.bool nA) (.slice b2 k2 c2)
 have hK:=((Kept.refl w).alloc (.cells #[.string s,.int .u8 k,.slice a1 n c,.slice a2 m c'] 24)).alloc (.cells #[.bool sg,.slice b1 k1 c1,.bool nA,.slice b2 k2 c2] 29)
 rw [World.size_alloc] at hU
 generalize (w.alloc (.cells #[.string s,.int .u8 k,.slice a1 n c,.slice a2 m c'] 24)).alloc (.cells #[.bool sg,.slice b1 k1 c1,.bool nA,.slice b2 k2 c2] 29) = W at hM hU hK ⊢
 obtain ⟨q,hq⟩:∃ q,q = w.heap.size + 1:=⟨_,rfl⟩
 rw [<- hq] at hU ⊢
 obtain ⟨p,hp⟩:∃ q,q = w.heap.size:=⟨_,rfl⟩
 rw [<- hp] at hM ⊢
 clear hq hp
 have q0:=hM.c0
 have q1:=hM.c1
 have q2:=hM.c2
 have q3:=hM.c3
 have HK:=hid' (And.intro hK (And.intro hM hU))
 clear hK hM hU
 go_wp2_with fail
 refine (validM_any s k a1 a2 n c m c' gs vs _ hs (HS.out.1.kept HK.out.1) (HS.out.2.1.kept HK.out.1) hn hm).mono ?_
 rintro e w1 ⟨hk1,rfl⟩
 have HK:=hid' (And.intro (HK.out.1.trans hk1) (And.intro (HK.out.2.1.kept hk1) (HK.out.2.2.kept hk1)))
 clear hk1 q0 q1 q2 q3
 rw [<- HOE.out]
 have HOK:=hid' (fun (h:ok = true) => okM_all (s:=s.data.toList) (k:=k) (gs:=gs) (vs:=vs) (by rw [<- HOE.out]; exact h))
 clear HOE
 cases ok
 ·
  go_wp2_with fail
  go_ret2
  exact ⟨HK.out.1,0,50,rfl,.inl ⟨rfl,rfl,rfl⟩⟩
 have HOA:=hid' (HOK.out rfl)
 clear HOK
 have q0:=HK.out.2.2.c0
 have q1:=HK.out.2.2.c1
 have q2:=HK.out.2.2.c2
 have q3:=HK.out.2.2.c3
 go_wp2_with fail
 refine (F.Check_any sg nA b1 b2 k1 c1 k2 c2 an ad _ (HS.out.2.2.1.kept HK.out.1) (HS.out.2.2.2.1.kept HK.out.1) HS.out.2.2.2.2.1 HS.out.2.2.2.2.2).mono ?_
 rintro e w2 ⟨hk2,cc,rfl,hcc⟩
 have HK:=hid' (And.intro (HK.out.1.trans hk2) (And.intro (HK.out.2.1.kept hk2) (HK.out.2.2.kept hk2)))
 clear hk2 q0 q1 q2 q3
 have HCC:=hid' hcc
 clear hcc
 by_cases hc0:cc = 0
 ·
  subst hc0
  have HR:=hid' (refused_rat HCC.out)
  go_wp2_with fail
  go_loopw [7] (fun vi wr => ∃ j:Nat,j<=m/\vi = .int .i64 (j:Int)/\Hid (Kept w2 wr/\cntA (M.int sg an) (M.val ad) vs = j + cntA (M.int sg an) (M.val ad) (vs.drop j))) (fun vi _ => m - (intOf vi).toNat)
  case atStart => exact ⟨0,Nat.zero_le _,rfl,Kept.refl _,by simp⟩
  case round =>
   obtain ⟨j,hj,rfl,H⟩:=hrel
   have c3':=(HK.out.2.1.kept H.out.1).c3
   by_cases hlt:j < m
   ·
    have hlt':(j:Int) < (m:Int):=by omega
    have hlen:=HS.out.2.1.len
    obtain ⟨ao',cap',hv,hx⟩:=HS.out.2.1.kept (HK.out.1.trans H.out.1)
    simp only [Value.slice.injEq] at hv
    obtain ⟨rfl,hq',rfl⟩:=hv
    obtain ⟨b,off,rfl,hb,hc⟩:=hx (by omega)
    obtain ⟨d0,d1⟩:=hc j (by omega)
    have ok1:okN (vs.getD j (0,0)).1 (vs.getD j (0,0)).2 = true:=HOA.out.2.1 _ (by
     rw [List.getD_eq_getElem?_getD,List.getElem?_eq_getElem (by omega)]
     exact List.getElem_mem (by omega))
    have hcn:=cntA_drop (N:=M.int sg an) (D:=M.val ad) (vs:=vs) (j:=j) (by omega)
    obtain ⟨x,hX⟩:∃ x,x = vs.getD j (0,0):=⟨_,rfl⟩
    rw [<- hX] at d0 d1 ok1 hcn
    obtain ⟨x0,x1⟩:=x
    dsimp only at d0 d1 ok1
    have HCN:=hid' (And.intro H.out.2 hcn)
    have hu:=HK.out.2.2.kept H.out.1
    have hml:=(HK.out.2.1.kept H.out.1).lt
    have hul:=hu.lt
    clear hq' hx hc hlen hX hcn
    go_upto_region 7 with fail
    have KR:∀ d os,Kept wr (grow (redrawn wr d) os):=fun d os => below_regrown wr d os
    have r0:∀ d os,(grow (redrawn wr d) os).cell? ⟨b,off + j * 2,none⟩ = some (.int .i64 x0):=fun d os => (Below.cell (KR d os) (p:=⟨b,off + j * 2,none⟩) hb).trans d0
    have r1:∀ d os,(grow (redrawn wr d) os).cell? ⟨b,off + j * 2 + 1,none⟩ = some (.int .i64 x1):=fun d os => (Below.cell (KR d os) (p:=⟨b,off + j * 2 + 1,none⟩) hb).trans d1
    have r2:∀ d os,(grow (redrawn wr d) os).cell? ⟨p,3,none⟩ = some (.slice (some ⟨b,off,none⟩) m c'):=fun d os => (Below.cell (KR d os) (p:=⟨p,3,none⟩) hml).trans c3'
    have r3:∀ d os,(grow (redrawn wr d) os).cell? ⟨q,0,none⟩ = some (.bool sg):=fun d os => (Below.cell (KR d os) (p:=⟨q,0,none⟩) hul).trans hu.c0
    have r4:∀ d os,(grow (redrawn wr d) os).cell? ⟨q,1,none⟩ = some (.slice b1 k1 c1):=fun d os => (Below.cell (KR d os) (p:=⟨q,1,none⟩) hul).trans hu.c1
    have r5:∀ d os,(grow (redrawn wr d) os).cell? ⟨q,2,none⟩ = some (.bool nA):=fun d os => (Below.cell (KR d os) (p:=⟨q,2,none⟩) hul).trans hu.c2
    have r6:∀ d os,(grow (redrawn wr d) os).cell? ⟨q,3,none⟩ = some (.slice b2 k2 c2):=fun d os => (Below.cell (KR d os) (p:=⟨q,3,none⟩) hul).trans hu.c3
    obtain ⟨ag,hag⟩:∃ ag,ag = agn (M.int sg an) (M.val ad) (x0,x1):=⟨_,rfl⟩
    have cS:∀ d os,Calls Tryz.prog 36 #[.agg #[.bool sg,.slice b1 k1 c1,.bool nA,.slice b2 k2 c2],.agg #[.int .i64 x0,.int .i64 x1]] (grow (redrawn wr d) os) fun e w'' => e = .returned (.int .i64 ag)/\∃ p:Regrown,w'' = grow (redrawn wr p.d) p.os:=fun d os =>
     Calls.regrown_of ((against_any sg nA b1 b2 k1 c1 k2 c2 an ad x0 x1 _ (HS.out.2.2.1.kept ((HK.out.1.trans H.out.1).trans (KR d os))) (HS.out.2.2.2.1.kept ((HK.out.1.trans H.out.1).trans (KR d os))) HR.out ok1).mono fun e w' h => ⟨by rw [h.2,hag],h.1⟩)
    rw [<- hag] at HCN
    have HKR:=hid' KR
    clear KR c3' d0 d1 hb hu hml hul hag ok1
    refine wp_region_quiet_below (by kernel_rfl) (by kernel_rfl) ?_
    repeat (quiet_step (exact cS _ _))
    refine wpQuiet_nil ?_
    intro _ hw'
    obtain ⟨⟨dq,osq⟩,hw''⟩:=hw'
    subst hw''
    clear r0 r1 r2 r3 r4 r5 r6 cS
    by_cases hag:0 < ag
    ·
     go_wp2_with fail
     go_roundw
     case rel => exact ⟨j + 1,by omega,by go_num,H.out.1.trans (HKR.out dq osq),by rw [HCN.out.1,HCN.out.2,if_pos hag]; omega⟩
     case measure => show m - ((j:Int) + 1).toNat < m - (j:Int).toNat; omega
    ·
     have HAG:=hid' hag
     go_wp2_with fail
     go_ret2
     exact ⟨(HK.out.1.trans H.out.1).trans (HKR.out dq osq),j,0,rfl,.inr ⟨rfl,0,HCC.out,.inr ⟨rfl,rfl,by rw [HCN.out.1,HCN.out.2,if_neg (by have:=HAG.out; omega)]; omega⟩⟩⟩
   ·
    have hlt':¬ (j:Int) < (m:Int):=by omega
    have hml:=(HK.out.2.1.kept H.out.1).lt
    have hcn:cntA (M.int sg an) (M.val ad) vs = j:=by
     rw [H.out.2,List.drop_eq_nil_of_le (by have:=HS.out.2.1.len; omega)]; rfl
    have HCN:=hid' hcn
    clear hcn
    go_upto_region 7 with fail
    have KR:∀ d os,Kept wr (grow (redrawn wr d) os):=fun d os => below_regrown wr d os
    have r2:∀ d os,(grow (redrawn wr d) os).cell? ⟨p,3,none⟩ = some (.slice a2 m c'):=fun d os => (Below.cell (KR d os) (p:=⟨p,3,none⟩) hml).trans c3'
    have HKR:=hid' KR
    clear KR c3' hml
    refine wp_region_quiet_below (by kernel_rfl) (by kernel_rfl) ?_
    repeat (quiet_step (fail))
    refine wpQuiet_nil ?_
    intro _ hw'
    obtain ⟨⟨dq,osq⟩,hw''⟩:=hw'
    subst hw''
    go_wp2_with fail
    go_ret2
    exact ⟨(HK.out.1.trans H.out.1).trans (HKR.out dq osq),j,0,rfl,.inr ⟨rfl,0,HCC.out,.inr ⟨rfl,rfl,by rw [HCN.out]⟩⟩⟩
 ·
  go_wp2_with fail
  go_ret2
  exact ⟨HK.out.1,0,cc,rfl,.inr ⟨rfl,cc,HCC.out,.inl ⟨hc0,rfl,rfl⟩⟩⟩
end V
end Go.Proofs.YthfbfbfambbkaaaGreatDoor
