/- SparseOf's walk. -/
import Derived.Test.YtojbncpifpghgaaGap
import Derived.Test.YtojbncpifpghgaaGaq
namespace Go.Proofs.Ytojbncpifpghgaa
open Go.RowKit
open V (RowL RowL.alloc RowL.lt RowL.cell RowL.fz RowL.kept RowL.block RowL.set RowL.far)
namespace Sy
open Sp (hid PatU chkP)
def RE.fit (r:RE):Prop:=r.A.cs.length≤1000000000000000∧r.H.cs.length≤1000000000000000∧r.S.cs.length≤1000000000000000
theorem ofS_small {rs:List RE} (h:rs.length≤61) (hs:∀ r ∈ rs,r.A.cs.length≤300):(ofS rs).1.length≤1000000∧∀ l ∈ (ofS rs).1,l.length≤1000000:=by
 unfold ofS
 by_cases hok:sOk rs = true
 ·
  rw [if_pos hok]
  refine ⟨by show (patOf rs).length≤_; unfold patOf; rw [List.length_map]; omega,fun l hl => ?_⟩
  have hl:l ∈ patOf rs:=hl
  unfold patOf at hl
  obtain ⟨r,hr,rfl⟩:=List.mem_map.1 hl
  have:=hs r hr
  unfold colsOf
  rw [List.length_map]
  omega
 ·
  rw [if_neg hok]
  exact ⟨by decide,fun l hl => by cases hl⟩
theorem ofS_chk {rs:List RE} (h:(ofS rs).2 = 0):chkP (ofS rs).1 = 0:=by
 unfold ofS at h ⊢
 by_cases hok:sOk rs = true
 ·
  rw [if_pos hok]
  show chkP (patOf rs) = 0
  unfold chkP
  rw [if_pos (sOk_pat hok)]
 ·
  rw [if_neg hok] at h
  exact absurd h (by decide)
set_option maxRecDepth 100000 in
set_option maxHeartbeats 16000000 in
theorem of13_any (ao:Option Addr) (n cap:Nat) (rs:List RE) (w:World) (h:RsR w ao rs) (hl:n = rs.length) (hs:∀ r ∈ rs,r.fit) :
  Calls Try.prog 3 #[.agg #[.slice ao n cap]] w fun e w' => Kept w w'∧e = .returned (.bool true):=by
 have HL:=hid (And.intro h (And.intro hl hs))
 clear h hl hs
 have kA:=(Kept.refl w).alloc (.cells #[.slice ao n cap] 24)
 have rA:=RowL.alloc 24 w [.slice ao n cap]
 go_enter Try.func3,Try.ntmps3
 go_upto_region 1 with fail
 generalize w.alloc (.cells #[.slice ao n cap] 24) = W at kA rA ⊢
 obtain ⟨q,hq⟩:∃ q,q = w.heap.size:=⟨_,rfl⟩
 rw [← hq] at rA ⊢
 have HW:=hid (And.intro kA rA)
 clear kA rA hq
 go_wp2_with fail
 refine (Sp.awake13_any _).mono ?_
 rintro e w1 ⟨hk,rfl⟩
 have HW:=hid (And.intro (HW.out.1.trans hk) (HW.out.2.kept hk))
 clear hk
 have d0:=HW.out.2.cell 0 _
 go_wp2_with fail
 --%A
 go_loopw [13] (fun v13 wr => ∃ (i:Nat),i≤n∧i≤61∧v13 = .int .i64 (i:Int)∧Hid (Kept w wr∧RowL 24 wr q [.slice ao n cap]∧∀ j (hj:j < rs.length),j < i→rs[j].A.cs.length + rs[j].H.cs.length + rs[j].S.cs.length≤300)) (fun v13 _ => n - (intOf v13).toNat)
 case atStart => exact ⟨0,Nat.zero_le _,by omega,rfl,HW.out.1,HW.out.2,fun j _ hj => absurd hj (Nat.not_lt_zero _)⟩
 case round =>
  clear HW d0
  obtain ⟨i,hil,hi61,rfl,H⟩:=hrel
  by_cases hit:i < n
  ·
   have hii:(i:Int) < (n:Int):=by omega
   have hi0:(0:Int)≤(i:Int):=by omega
   have hiL:i < rs.length:=by have:=HL.out.2.1; omega
   have kd:=H.out.1.drew
   have rd:=H.out.2.1.kept (Kept.refl wr).drew
   by_cases h60:60 < i
   ·
    have h60':(60:Int) < (i:Int):=by omega
    go_upto_region 6 with fail
    refine wp_region_held_drew (S:=fun _ => True) (by kernel_rfl) trivial (fun hHeld => ?_)
    generalize wr.drew = Wd at kd ⊢
    have HK:=hid kd
    clear kd rd H
    refine tk 0 hHeld ?_
    refine tk 1 hHeld ?_
    refine tk 2 hHeld ?_
    refine sk 3 hHeld ?_
    refine sk 4 hHeld ?_
    refine sk 5 hHeld ?_
    refine sk 6 hHeld ?_
    refine sk 7 hHeld ?_
    refine sk 8 hHeld ?_
    refine sk 9 hHeld ?_
    refine sk 10 hHeld ?_
    refine sk 11 hHeld ?_
    refine sk 12 hHeld ?_
    refine sk 13 hHeld ?_
    refine sk 14 hHeld ?_
    refine sk 15 hHeld ?_
    refine sk 16 hHeld ?_
    refine sk 17 hHeld ?_
    refine sk 18 hHeld ?_
    refine sk 19 hHeld ?_
    refine sk 20 hHeld ?_
    refine sk 21 hHeld ?_
    refine sk 22 hHeld ?_
    refine sk 23 hHeld ?_
    refine sk 24 hHeld ?_
    refine sk 25 hHeld ?_
    refine sk 26 hHeld ?_
    refine tk 27 hHeld ?_
    refine _root_.Go.Proofs.Ytojbncpifpghgaa.dn ?_
    clear hHeld
    go_wp2_with fail
    go_ret
    exact ⟨HK.out,rfl⟩
   ·
    have h60':¬ (60:Int) < (i:Int):=by omega
    obtain ⟨b,off,m1,o1,n1,p1,oA,nA,pA,oH,nH,pH,oS,nS,pS,m2,o2,n2,p2,rfl,_,hEQ,hc,_⟩:=rsr_at HL.out.1 hiL
    have hft:=HL.out.2.2 rs[i] (List.getElem_mem hiL)
    have hbA:nA≤1000000000000000:=by rw [hEQ.2.1]; exact hft.1
    have hbH:nH≤1000000000000000:=by rw [hEQ.2.2.1]; exact hft.2.1
    have hbS:nS≤1000000000000000:=by rw [hEQ.2.2.2]; exact hft.2.2
    have HEQ:=hid hEQ
    obtain ⟨_,_,c2,c3,c4,_,_⟩:=hc _ kd
    have d0:=rd.cell 0 _
    have HH:=hid H.out.2.2
    clear hEQ hft hc
    go_upto_region 6 with fail
    --%B
    refine wp_region_held_drew (S:=fun w' => w'.cell? ⟨q,0,none⟩ = some (.slice (some ⟨b,off,none⟩) n cap)∧w'.cell? ⟨b,off + i * 7 + 2,none⟩ = some (.slice oA nA pA)∧w'.cell? ⟨b,off + i * 7 + 3,none⟩ = some (.slice oH nH pH)∧w'.cell? ⟨b,off + i * 7 + 4,none⟩ = some (.slice oS nS pS)) (by kernel_rfl) ⟨d0,c2,c3,c4⟩ (fun hHeld => ?_)
    have HK:=hid (And.intro kd rd)
    clear kd rd c2 c3 c4 d0 H
    generalize wr.drew = Wd at HK hHeld ⊢
    have hw1:IntKind.i64.wrap ((nA:Int) + (nH:Int)) = (nA:Int) + (nH:Int):=by rw [IntKind.wrap_i64]; omega
    have hw2:IntKind.i64.wrap ((nA:Int) + (nH:Int) + (nS:Int)) = (nA:Int) + (nH:Int) + (nS:Int):=by rw [IntKind.wrap_i64]; omega
    refine tk 0 hHeld ?_
    refine tk 1 hHeld ?_
    refine tk 2 hHeld ?_
    refine tk 3 hHeld ?_
    refine tk 4 hHeld ?_
    refine tk 5 hHeld ?_
    refine tk 6 hHeld ?_
    refine tk 7 hHeld ?_
    refine tk 8 hHeld ?_
    refine tk 9 hHeld ?_
    refine tk 10 hHeld ?_
    refine tk 11 hHeld ?_
    refine tk 12 hHeld ?_
    refine tk 13 hHeld ?_
    refine tk 14 hHeld ?_
    refine tk 15 hHeld ?_
    refine tk 16 hHeld ?_
    refine tk 17 hHeld ?_
    refine tk 18 hHeld ?_
    refine tk 19 hHeld ?_
    refine tk 20 hHeld ?_
    refine tk 21 hHeld ?_
    refine tk 22 hHeld ?_
    refine tk 23 hHeld ?_
    refine tk 24 hHeld ?_
    refine tk 25 hHeld ?_
    --%C
    by_cases h300:300 < nA + nH + nS
    ·
     have h3':(300:Int) < (nA:Int) + (nH:Int) + (nS:Int):=by omega
     refine tk 26 hHeld ?_
     refine tk 27 hHeld ?_
     refine _root_.Go.Proofs.Ytojbncpifpghgaa.dn ?_
     clear hHeld
     go_wp2_with fail
     go_ret
     exact ⟨HK.out.1,rfl⟩
    ·
     have h3':¬ (300:Int) < (nA:Int) + (nH:Int) + (nS:Int):=by omega
     refine tk 26 hHeld ?_
     refine tk 27 hHeld ?_
     refine _root_.Go.Proofs.Ytojbncpifpghgaa.dn ?_
     clear hHeld
     go_wp2_with fail
     go_roundw
     case rel => exact ⟨i + 1,by omega,by omega,by go_num,HK.out.1,HK.out.2,fun j hj hji => by
      by_cases e:j < i
      ·
       exact HH.out j hj e
      ·
       obtain rfl:j = i:=by omega
       rw [← HEQ.out.2.1,← HEQ.out.2.2.1,← HEQ.out.2.2.2]
       omega⟩
     case measure => show n - ((i:Int) + 1).toNat < n - (i:Int).toNat; omega
  ·
   have hii:¬ (i:Int) < (n:Int):=by omega
   obtain rfl:n = i:=by omega
   have d0:=H.out.2.1.cell 0 _
   have HSM:=hid (show ∀ r ∈ rs,r.A.cs.length + r.H.cs.length + r.S.cs.length≤300 by
    intro r hr
    obtain ⟨j,hj,rfl⟩:=List.getElem_of_mem hr
    exact H.out.2.2 j hj (by have:=HL.out.2.1; omega))
   have HSZ:=hid (show ∀ r ∈ rs,r.sz from fun r hr => by have:=HSM.out r hr; exact ⟨by omega,by omega,by omega⟩)
   have HOF:=hid (And.intro (ofS_small (rs:=rs) (by have:=HL.out.2.1; omega) (fun r hr => by have:=HSM.out r hr; omega)) (ofS_chk (rs:=rs)))
   go_wp2_with fail
   --%D
   refine (of_any ao n cap rs _ (rsr_kept HL.out.1 H.out.1) HL.out.2.1 (by omega) HSZ.out).mono ?_
   rintro e w2 ⟨hk,v,rfl,hP⟩
   obtain ⟨va,vc,rfl⟩:=hP.shape
   have HP:=hid hP.pat
   have HK:=hid (And.intro (H.out.1.trans hk) (H.out.2.1.kept hk))
   clear hk hP d0 H
   have d0:=HK.out.2.cell 0 _
   obtain ⟨P,hP⟩:∃ P,P = (ofS rs).1:=⟨_,rfl⟩
   obtain ⟨y,hy⟩:∃ y,y = (ofS rs).2:=⟨_,rfl⟩
   have HPY:=hid (And.intro hP hy)
   rw [← hP] at HP HOF ⊢
   rw [← hy] at HOF ⊢
   obtain ⟨m,hm⟩:∃ m,m = P.length:=⟨_,rfl⟩
   rw [← hm] at HP ⊢
   have hml:m≤1000000:=by rw [hm]; exact HOF.out.1.1
   have HM:=hid hm
   clear hP hy hm
   go_wp2_with fail
   refine (rof_any ao n cap rs _ (rsr_kept HL.out.1 HK.out.1) HL.out.2.1 (by omega) HSZ.out).mono ?_
   rintro e w3 ⟨hk,v,rfl,hP⟩
   rw [← HPY.out.1] at hP
   rw [← HPY.out.2]
   obtain ⟨ta,tc,rfl⟩:=hP.shape
   rw [← HM.out] at hP ⊢
   have HT:=hid (And.intro (HP.out.kept hk) hP.pat)
   have HK:=hid (HK.out.1.trans hk)
   clear hk hP d0
   go_wp2_with fail
   --%E
   refine (Sp.same_any va m vc ta tc P _ HT.out.1 HT.out.2 hml HOF.out.1.2).mono ?_
   rintro e w4 ⟨hk,rfl⟩
   have HK:=hid (HK.out.trans hk)
   have HT:=hid (HT.out.1.kept hk)
   clear hk
   by_cases hy0:y = 0
   ·
    have HC:=hid (HOF.out.2 hy0)
    subst hy0
    go_wp2_with fail
    refine (Sp.sp_check va m vc P _ HT.out hml HOF.out.1.2).mono ?_
    rintro e w5 ⟨hk,rfl⟩
    rw [HC.out]
    have HK:=hid (HK.out.trans hk)
    clear hk
    go_wp2_with fail
    go_ret
    exact ⟨HK.out,rfl⟩
   ·
    have hyb:(y != 0) = true:=by simpa using hy0
    clear hy0
    go_wp2_with fail
    go_ret
    exact ⟨HK.out,rfl⟩
end Sy
end Go.Proofs.Ytojbncpifpghgaa
