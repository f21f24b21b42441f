/- Lemmas. -/
import Derived.Test.YtihnknnddldgiaaGreatDoorGas
import Derived.Shelf.Abstract
namespace Go.Proofs.YtihnknnddldgiaaGreatDoor
open Go.RowKit
namespace V
open Q (hid' Row3 Row2)
theorem okS_all {ss:List Int} (h:ss.all okS = true) (i:Nat) (hi:i < ss.length):0<=ss.getD i 0/\ss.getD i 0<=1000000000:=by
 rw [List.all_eq_true] at h
 have:=h (ss.getD i 0) (by rw [List.getD_eq_getElem?_getD,List.getElem?_eq_getElem hi]; exact List.getElem_mem hi)
 unfold okS at this
 simpa using this
theorem fits1 {n m:Nat} (h:fitsB 1 n m = true):n = 1/\m = 0:=by unfold fitsB at h; simpa using h
theorem fits2 {n m:Nat} (h:fitsB 2 n m = true):n = 2/\m = 5:=by unfold fitsB at h; simpa using h
theorem fits3 {n m:Nat} (h:fitsB 3 n m = true):(1<=n/\n<=16)/\m = n:=by unfold fitsB at h; simpa using h
theorem fits4 {n m:Nat} (h:fitsB 4 n m = true):(1<=n/\n<=16)/\m = 0:=by unfold fitsB at h; simpa using h
theorem fits_kind {k:Int} {n m:Nat} (h:fitsB k n m = true):k = 1 ∨ k = 2 ∨ k = 3 ∨ k = 4:=by
 unfold fitsB at h
 simp at h
 omega
theorem fits_len {k:Int} {n m:Nat} (h:fitsB k n m = true):1<=n/\n<=16/\m<=16:=by
 rcases fits_kind h with rfl | rfl | rfl | rfl
 ·
  have:=fits1 h; omega
 ·
  have:=fits2 h; omega
 ·
  have:=fits3 h; omega
 ·
  have:=fits4 h; omega
set_option maxHeartbeats 4000000 in
theorem hangs_any (k:Int) (a1 a2:Option Addr) (n c m c':Nat) (vs:List (Int × Int)) (ss:List Int) (w:World) (h1:NSl w (.slice a1 n c) vs) (h2:ISl w (.slice a2 m c') ss) (hf:fitsB k n m = true) (hs:ss.all okS = true) :
  Calls Tryz.prog 47 #[.agg #[.int .i64 k,.slice a1 n c,.slice a2 m c']] w fun e w' => Kept w w'/\e = .returned (.bool (hangB k ss)):=by
 have HF:=hid' hf
 have HS:=hid' (And.intro h1 (And.intro h2 hs))
 clear h1 h2 hf hs
 go_enter Tryz.func47,Tryz.ntmps47
 go_upto_region 1 with fail
 have hK:=(Kept.refl w).alloc (.cells #[.int .i64 k,.slice a1 n c,.slice a2 m c'] 30)
 have hR:=Row3.alloc 30 w (.int .i64 k) (.slice a1 n c) (.slice a2 m c')
 generalize w.alloc (.cells #[.int .i64 k,.slice a1 n c,.slice a2 m c'] 30) = W at hK hR ⊢
 obtain ⟨p1,hp1⟩:∃ p,p = w.heap.size:=⟨_,rfl⟩
 rw [<- hp1] at hR ⊢
 have HK:=hid' hK
 have q0:=hR.c0
 have q1:=hR.c1
 have q2:=hR.c2
 clear hp1 hK hR
 by_cases h2:k = 2
 ·
  subst h2
  go_wp2_with fail
  have hnm:=fits2 HF.out
  have hl:=HS.out.2.1.len
  refine (pulseOf_any 2 a1 a2 n c m c' vs ss _ (HS.out.1.kept HK.out) (HS.out.2.1.kept HK.out) hnm.1 hnm.2).mono ?_
  rintro e w1 ⟨hk1,rfl⟩
  have HK1:=hid' (HK.out.trans hk1)
  clear hk1
  have s1:=okS_all HS.out.2.2 1 (by omega)
  have s2:=okS_all HS.out.2.2 2 (by omega)
  have s4:=okS_all HS.out.2.2 4 (by omega)
  have HB:Hid (∀ g:Int,decide (1<=ss.getD 4 0/\g<=ss.getD 4 0 - ss.getD 1 0 - ss.getD 2 0) = (decide (1<=ss.getD 4 0) && decide (ss.getD 1 0 + ss.getD 2 0 + g<=ss.getD 4 0))):=fun g => by rw [Bool.eq_iff_iff]; simp; omega
  have HU:Hid (hangB 2 ss = (decide (1<=ss.getD 4 0) && decide (ss.getD 1 0 + ss.getD 2 0 + ss.getD 3 0<=ss.getD 4 0))):=by unfold hangB; rfl
  generalize (vs.getD 0 (0,0)).1 = x0
  generalize (vs.getD 0 (0,0)).2 = x1
  generalize (vs.getD 1 (0,0)).1 = x2
  generalize (vs.getD 1 (0,0)).2 = x3
  generalize ss.getD 0 0 = y0 at *
  generalize ss.getD 1 0 = y1 at *
  generalize ss.getD 2 0 = y2 at *
  generalize ss.getD 3 0 = y3 at *
  generalize ss.getD 4 0 = y4 at *
  unfold pul
  go_wp2_with fail
  refine (fitsPeriod_any x0 x1 x2 x3 y0 y1 y2 y3 y4 _ s1 s2 s4).mono ?_
  rintro e w2 ⟨hk2,rfl⟩
  have HK2:=hid' (HK1.out.trans hk2)
  rw [HB.out y3,<- HU.out]
  clear hk2
  go_wp2_with fail
  go_ret
  exact ⟨HK2.out,rfl⟩
 by_cases h3:k = 3
 ·
  subst h3
  go_wp2_with fail
  have hnm:=fits3 HF.out
  refine (rising_any a2 m c' ss _ (HS.out.2.1.kept HK.out) (by omega)).mono ?_
  rintro e w1 ⟨hk1,rfl⟩
  have HK1:=hid' (HK.out.trans hk1)
  clear hk1
  go_wp2_with fail
  go_ret
  exact ⟨HK1.out,rfl⟩
 have b2:(k == 2) = false:=by simpa using h2
 have b3:(k == 3) = false:=by simpa using h3
 go_wp2_with fail
 go_ret
 exact ⟨HK.out,by unfold hangB; rw [if_neg h2,if_neg h3]; rfl⟩
theorem enters1:∀ args w,(callFunc 42 args).run Tryz.prog w = .ok (.enter 42 args) w:=enters_of Tryz.func42 (by kernel_rfl) rfl
theorem enters2:∀ args w,(callFunc 45 args).run Tryz.prog w = .ok (.enter 45 args) w:=enters_of Tryz.func45 (by kernel_rfl) rfl
theorem any_not {α:Type} (l:List α) (p:α->Bool):(l.any fun x => !p x) = !(l.all p):=by
 rw [List.not_all_eq_any_not]
set_option maxHeartbeats 4000000 in
theorem valid_any (k:Int) (a1 a2:Option Addr) (n c m c':Nat) (vs:List (Int × Int)) (ss:List Int) (w:World) (h1:NSl w (.slice a1 n c) vs) (h2:ISl w (.slice a2 m c') ss) :
  Calls Tryz.prog 19 #[.agg #[.int .i64 k,.slice a1 n c,.slice a2 m c']] w fun e w' => Kept w w'/\e = .returned (.bool (okW k vs ss)):=by
 have hU:okW k vs ss = (fitsB k n m && (vs.all (fun p => Q.okN p.1 p.2) && ss.all okS) && hangB k ss):=by unfold okW; rw [<- h1.len,<- h2.len]
 have HS:=hid' (And.intro h1 h2)
 rw [hU]
 clear h1 h2 hU
 go_enter Tryz.func19,Tryz.ntmps19
 go_upto_region 1 with fail
 have hK:=(Kept.refl w).alloc (.cells #[.int .i64 k,.slice a1 n c,.slice a2 m c'] 30)
 have hR:=Row3.alloc 30 w (.int .i64 k) (.slice a1 n c) (.slice a2 m c')
 generalize w.alloc (.cells #[.int .i64 k,.slice a1 n c,.slice a2 m c'] 30) = W at hK hR ⊢
 obtain ⟨p1,hp1⟩:∃ p,p = w.heap.size:=⟨_,rfl⟩
 rw [<- hp1] at hR ⊢
 have HK:=hid' hK
 have HR:=hid' hR
 have q0:=hR.c0
 have q1:=hR.c1
 have q2:=hR.c2
 clear hp1 hK hR
 go_wp2_with fail
 refine (fits_any k a1 a2 n c m c' _).mono ?_
 rintro e w1 ⟨hk1,rfl⟩
 have HK1:=hid' (HK.out.trans hk1)
 have HR1:=hid' (HR.out.kept hk1)
 clear hk1 q0 q1 q2
 by_cases hf:fitsB k n m = true
 ·
  have HF:=hid' hf
  rw [hf]
  clear hf
  have q1:=HR1.out.c1
  go_wp2_with fail
  have hlen:=fits_len HF.out
  refine (con_nums 42 #[] (fun x y => !Q.okN x y) enters1 a1 n c vs _ (fun W' x y hW => (cl1 x y W').mono fun e w' ⟨he,hk⟩ => ⟨he,hW.trans hk⟩) (HS.out.1.kept HK1.out) (by omega)).mono ?_
  rintro e w2 ⟨hk2,rfl⟩
  have HK2:=hid' (HK1.out.trans hk2)
  have HR2:=hid' (HR1.out.kept hk2)
  rw [any_not vs (fun p => Q.okN p.1 p.2)]
  obtain ⟨bv,hbv⟩:∃ b,b = vs.all (fun p => Q.okN p.1 p.2):=⟨_,rfl⟩
  rw [<- hbv]
  have HBV:=hid' hbv
  clear hbv
  clear hk2 q1
  have q2:=HR2.out.c2
  go_wp2_with fail
  refine (con_ints 45 #[] (fun x => !okS x) enters2 a2 m c' ss _ (fun W' x hW => (cl2 x W').mono fun e w' ⟨he,hk⟩ => ⟨he,hW.trans hk⟩) (HS.out.2.kept HK2.out) (by omega)).mono ?_
  rintro e w3 ⟨hk3,rfl⟩
  have HK3:=hid' (HK2.out.trans hk3)
  have HR3:=hid' (HR2.out.kept hk3)
  rw [any_not ss okS]
  clear hk3 q2
  have q0:=HR3.out.c0
  have q1:=HR3.out.c1
  have q2:=HR3.out.c2
  cases bv
  ·
   generalize ss.all okS = bs
   go_wp2_with fail
   go_ret
   exact ⟨HK3.out,by rw [<- HBV.out,HF.out]; rfl⟩
  by_cases hs:ss.all okS = true
  ·
   have HO:=hid' hs
   rw [hs]
   clear hs
   go_wp2_with fail
   refine (hangs_any k a1 a2 n c m c' vs ss _ (HS.out.1.kept HK3.out) (HS.out.2.kept HK3.out) HF.out HO.out).mono ?_
   rintro e w4 ⟨hk4,rfl⟩
   have HK4:=hid' (HK3.out.trans hk4)
   clear hk4 q0 q1 q2
   go_wp2_with fail
   go_ret
   exact ⟨HK4.out,by rw [<- HBV.out,HF.out,HO.out]; rfl⟩
  ·
   have hs:ss.all okS = false:=by simpa using hs
   rw [hs]
   go_wp2_with fail
   go_ret
   exact ⟨HK3.out,by rw [<- HBV.out,HF.out,hs]; rfl⟩
 ·
  have hf:fitsB k n m = false:=by simpa using hf
  rw [hf]
  go_wp2_with fail
  go_ret
  exact ⟨HK1.out,by rw [hf]; rfl⟩
open Q (hid' Row3 Row2)
set_option maxHeartbeats 4000000 in
theorem rrising_any (ao:Option Addr) (n c:Nat) (l:List Int) (w:World) (h:ISl w (.slice ao n c) l) (hbig:n<=9223372036854775807) :
  Calls Tryz.prog 59 #[.slice ao n c] w fun e w' => Kept w w'/\e = .returned (.bool (riseB l)):=by
 have HS:=hid' h
 clear h
 go_enter Tryz.func59,Tryz.ntmps59
 go_wp2
 go_loopw [3] (fun vi wr => ∃ j:Nat,(j + 1<=n ∨ j = 0)/\vi = .int .i64 ((j:Int) + 1)/\Hid (Kept w wr/\∀ i,i < j->l.getD i 0 < l.getD (i + 1) 0)) (fun vi _ => n - (intOf vi).toNat)
 case atStart => exact ⟨0,.inr rfl,rfl,Kept.refl w,fun i hi => absurd hi (Nat.not_lt_zero _)⟩
 case round =>
  obtain ⟨j,hj,rfl,H⟩:=hrel
  by_cases hlt:j + 1 < n
  ·
   have hltz:(j:Int) + 1 < (n:Int):=by omega
   obtain ⟨ao',cap',hv,hx⟩:=HS.out.kept H.out.1
   simp only [Value.slice.injEq] at hv
   obtain ⟨rfl,hn,rfl⟩:=hv
   obtain ⟨b,off,rfl,hb,hc⟩:=hx (by omega)
   have c0:=hc (j + 1) (by omega)
   have c1:=hc j (by omega)
   have HN:=hid' hn
   clear hx hc hn hb
   have hw:IntKind.i64.wrap ((j:Int) + 1 - 1) = (j:Int):=by rw [IntKind.wrap_i64]; omega
   have hw2:IntKind.i64.wrap (j:Int) = (j:Int):=by rw [IntKind.wrap_i64]; omega
   have ht:((j:Int) + 1).toNat = j + 1:=by omega
   have h2:(0:Int)<=(j:Int) + 1:=by omega
   have h3:(j:Int) < (n:Int):=by omega
   obtain ⟨x,hX⟩:∃ x,x = l.getD (j + 1) 0:=⟨_,rfl⟩
   obtain ⟨y,hY⟩:∃ y,y = l.getD j 0:=⟨_,rfl⟩
   rw [<- hX] at c0
   rw [<- hY] at c1
   have HX:=hid' (And.intro hX hY)
   clear hX hY
   go_upto_region 4 with fail
   go_region_held3 (fun w' => w'.cell? ⟨b,off + (j + 1),none⟩ = some (.int .i64 x)/\w'.cell? ⟨b,off + j,none⟩ = some (.int .i64 y)) (go_keep) (fail)
   by_cases hxy:x<=y
   ·
    go_wp2_with fail
    go_ret
    refine ⟨H.out.1.drew,congrArg (fun b => Ending.returned (Value.bool b)) ?_⟩
    symm
    rw [Bool.eq_false_iff]
    intro hr
    have:=(riseB_iff l).1 hr j (by have:=HN.out; omega)
    rw [<- HX.out.1,<- HX.out.2] at this
    omega
   ·
    go_wp2_with fail
    go_roundw
    case rel =>
     refine ⟨j + 1,.inl (by omega),by push_cast; go_num,H.out.1.drew,fun i hi => ?_⟩
     by_cases e:i = j
     ·
      subst e
      rw [<- HX.out.1,<- HX.out.2]
      omega
     ·
      exact H.out.2 i (by omega)
    case measure => show n - ((j:Int) + 1 + 1).toNat < n - ((j:Int) + 1).toNat; omega
  ·
   have hltz:¬ (j:Int) + 1 < (n:Int):=by omega
   go_wp2_with fail
   go_ret
   refine ⟨H.out.1,congrArg (fun b => Ending.returned (Value.bool b)) ?_⟩
   symm
   rw [riseB_iff]
   intro i hi
   exact H.out.2 i (by have:=HS.out.len; omega)
theorem okW_split {k:Int} {vs:List (Int × Int)} {ss:List Int} (h:okW k vs ss = true):fitsB k vs.length ss.length = true/\(∀ i,i < vs.length->Q.okN (vs.getD i (0,0)).1 (vs.getD i (0,0)).2 = true)/\(∀ i,i < ss.length->okS (ss.getD i 0) = true)/\hangB k ss = true:=by
 unfold okW at h
 rw [Bool.and_eq_true,Bool.and_eq_true,Bool.and_eq_true] at h
 obtain ⟨⟨h1,h2,h3⟩,h4⟩:=h
 rw [List.all_eq_true] at h2 h3
 exact ⟨h1,fun i hi => h2 (vs.getD i (0,0)) (by rw [List.getD_eq_getElem?_getD,List.getElem?_eq_getElem hi]; exact List.getElem_mem hi),fun i hi => h3 (ss.getD i 0) (by rw [List.getD_eq_getElem?_getD,List.getElem?_eq_getElem hi]; exact List.getElem_mem hi),h4⟩
theorem all_getD {l:List (Int × Int)} {p:Int × Int->Bool} (h:∀ i,i < l.length->p (l.getD i (0,0)) = true):l.all p = true:=by
 rw [List.all_eq_true]
 intro x hx
 obtain ⟨i,hi,rfl⟩:=List.getElem_of_mem hx
 have:=h i hi
 rwa [List.getD_eq_getElem?_getD,List.getElem?_eq_getElem hi] at this
theorem all_getD' {l:List Int} {p:Int->Bool} (h:∀ i,i < l.length->p (l.getD i 0) = true):l.all p = true:=by
 rw [List.all_eq_true]
 intro x hx
 obtain ⟨i,hi,rfl⟩:=List.getElem_of_mem hx
 have:=h i hi
 rwa [List.getD_eq_getElem?_getD,List.getElem?_eq_getElem hi] at this
set_option maxRecDepth 100000 in
set_option maxHeartbeats 4000000 in
theorem rvalid_any (k:Int) (a1 a2:Option Addr) (n c m c':Nat) (vs:List (Int × Int)) (ss:List Int) (w:World) (h1:NSl w (.slice a1 n c) vs) (h2:ISl w (.slice a2 m c') ss) (hn:n<=9223372036854775807) (hm:m<=9223372036854775807) :
  Calls Tryz.prog 25 #[.agg #[.int .i64 k,.slice a1 n c,.slice a2 m c']] w fun e w' => Kept w w'/\e = .returned (.bool (okW k vs ss)):=by
 have HS:=hid' (And.intro h1 h2)
 clear h1 h2
 go_enter Tryz.func25,Tryz.ntmps25
 go_upto_region 1 with fail
 have hK:=(Kept.refl w).alloc (.cells #[.int .i64 k,.slice a1 n c,.slice a2 m c'] 30)
 have hR:=Row3.alloc 30 w (.int .i64 k) (.slice a1 n c) (.slice a2 m c')
 generalize w.alloc (.cells #[.int .i64 k,.slice a1 n c,.slice a2 m c'] 30) = W at hK hR ⊢
 obtain ⟨p1,hp1⟩:∃ p,p = w.heap.size:=⟨_,rfl⟩
 rw [<- hp1] at hR ⊢
 have HK:=hid' hK
 have HR:=hid' hR
 clear hp1 hK hR
 have q1:=HR.out.c1
 go_wp2_with fail
 go_loopw [3] (fun vi wr => ∃ j:Nat,j<=n/\vi = .int .i64 (j:Int)/\Hid (Kept W wr/\∀ i,i < j->Q.okN (vs.getD i (0,0)).1 (vs.getD i (0,0)).2 = true)) (fun vi _ => n - (intOf vi).toNat)
 case atStart => exact ⟨0,Nat.zero_le _,rfl,Kept.refl W,fun i hi => absurd hi (Nat.not_lt_zero _)⟩
 case round =>
  obtain ⟨j,hj,rfl,H⟩:=hrel
  clear q1
  have q1:=(HR.out.kept H.out.1).c1
  by_cases hlt:j < n
  ·
   have hltz:(j:Int) < (n:Int):=by omega
   obtain ⟨ao',cap',hv,hx⟩:=(HS.out.1.kept HK.out).kept H.out.1
   simp only [Value.slice.injEq] at hv
   obtain ⟨rfl,hn',rfl⟩:=hv
   obtain ⟨b,off,rfl,hb,hc⟩:=hx (by omega)
   obtain ⟨c0,c1⟩:=hc j (by omega)
   clear hx hc hb
   obtain ⟨y,hY⟩:∃ y,y = vs.getD j (0,0):=⟨_,rfl⟩
   rw [<- hY] at c0 c1
   have HY:=hid' (And.intro hY hn')
   clear hY hn'
   obtain ⟨y0,y1⟩:=y
   dsimp only at c0 c1
   go_wp2_with fail
   refine (Q.RValid_any y0 y1 _).mono ?_
   rintro e w1 ⟨hk1,rfl⟩
   have HK1:=hid' (H.out.1.trans hk1)
   clear hk1
   by_cases ho:Q.okN y0 y1 = true
   ·
    rw [ho]
    have HO:=hid' ho
    clear ho
    go_wp2_with fail
    go_roundw
    case rel =>
     refine ⟨j + 1,by omega,by go_num,HK1.out,fun i hi => ?_⟩
     by_cases e:i = j
     ·
      subst e; rw [<- HY.out.1]; exact HO.out
     ·
      exact H.out.2 i (by omega)
    case measure => show n - ((j:Int) + 1).toNat < n - (j:Int).toNat; omega
   ·
    have ho:Q.okN y0 y1 = false:=by simpa using ho
    rw [ho]
    have HO:=hid' ho
    clear ho
    go_wp2_with fail
    go_ret
    refine ⟨HK.out.trans HK1.out,congrArg (fun b => Ending.returned (Value.bool b)) ?_⟩
    symm
    rw [Bool.eq_false_iff]
    intro hw
    have:=(okW_split hw).2.1 j (by have:=HY.out.2; omega)
    rw [<- HY.out.1,HO.out] at this
    exact absurd this (by decide)
  ·
   obtain rfl:j = n:=by omega
   have hltz:¬ (j:Int) < (j:Int):=by omega
   have q2:=(HR.out.kept H.out.1).c2
   go_wp2_with fail
   go_loopw [4] (fun vi wr' => ∃ i:Nat,i<=m/\vi = .int .i64 (i:Int)/\Hid (Kept W wr'/\∀ l,l < i->okS (ss.getD l 0) = true)) (fun vi _ => m - (intOf vi).toNat)
   case atStart => exact ⟨0,Nat.zero_le _,rfl,H.out.1,fun l hl => absurd hl (Nat.not_lt_zero _)⟩
   case round =>
    obtain ⟨i,hi,rfl,I⟩:=hrel
    clear q1 q2
    have q0:=(HR.out.kept I.out.1).c0
    have q1:=(HR.out.kept I.out.1).c1
    have q2:=(HR.out.kept I.out.1).c2
    by_cases hlt2:i < m
    ·
     have hlt2z:(i:Int) < (m:Int):=by omega
     obtain ⟨ao',cap',hv,hx⟩:=(HS.out.2.kept HK.out).kept I.out.1
     simp only [Value.slice.injEq] at hv
     obtain ⟨rfl,hm',rfl⟩:=hv
     obtain ⟨b,off,rfl,hb,hc⟩:=hx (by omega)
     have c0:=hc i (by omega)
     clear hx hc hb
     obtain ⟨y,hY⟩:∃ y,y = ss.getD i 0:=⟨_,rfl⟩
     rw [<- hY] at c0
     have HY:=hid' (And.intro hY hm')
     clear hY hm'
     by_cases hy0:y < 0
     ·
      go_wp2_with fail
      go_ret
      refine ⟨HK.out.trans I.out.1,congrArg (fun b => Ending.returned (Value.bool b)) ?_⟩
      symm
      rw [Bool.eq_false_iff]
      intro hw
      have:=(okW_split hw).2.2.1 i (by have:=HY.out.2; omega)
      rw [<- HY.out.1] at this
      unfold okS at this
      simp at this
      omega
     by_cases hy1:1000000000 < y
     ·
      go_wp2_with fail
      go_ret
      refine ⟨HK.out.trans I.out.1,congrArg (fun b => Ending.returned (Value.bool b)) ?_⟩
      symm
      rw [Bool.eq_false_iff]
      intro hw
      have:=(okW_split hw).2.2.1 i (by have:=HY.out.2; omega)
      rw [<- HY.out.1] at this
      unfold okS at this
      simp at this
      omega
     ·
      go_wp2_with fail
      go_roundw
      case rel =>
       refine ⟨i + 1,by omega,by go_num,I.out.1,fun l hl => ?_⟩
       by_cases e:l = i
       ·
        subst e; rw [<- HY.out.1]; unfold okS; simp; omega
       ·
        exact I.out.2 l (by omega)
      case measure => show m - ((i:Int) + 1).toNat < m - (i:Int).toNat; omega
    ·
     obtain rfl:i = m:=by omega
     have hlt2z:¬ (i:Int) < (i:Int):=by omega
     have hL1:=HS.out.1.len
     have hL2:=HS.out.2.len
     have HU:Hid (okW k vs ss = (fitsB k j i && hangB k ss)):=by
      have e1:vs.all (fun p => Q.okN p.1 p.2) = true:=all_getD fun l hl => H.out.2 l (by omega)
      have e2:ss.all okS = true:=all_getD' fun l hl => I.out.2 l (by omega)
      show _ = _
      unfold okW
      rw [e1,e2,<- hL1,<- hL2,Bool.true_and,Bool.and_true]
     have HI:=hid' (HK.out.trans I.out.1)
     clear hL1 hL2
     go_upto_region 11 with fail
     go_region_held3 (fun w' => w'.cell? ⟨p1,0,none⟩ = some (.int .i64 k)/\w'.cell? ⟨p1,1,none⟩ = some (.slice a1 j c)/\w'.cell? ⟨p1,2,none⟩ = some (.slice a2 i c')) (go_keep) (fail)
     by_cases k1:k = 1
     ·
      subst k1
      go_wp2_with fail
      all_goals
       go_ret
       refine ⟨HI.out.drew,congrArg (fun b => Ending.returned (Value.bool b)) ?_⟩
       rw [HU.out]
       clear HU HI I H HS HK HR
       unfold fitsB hangB
       simp_all
       try first | omega | (rw [Bool.eq_iff_iff]; simp; omega)
     by_cases k2:k = 2
     ·
      subst k2
      by_cases hnm:j = 2/\i = 5
      ·
       obtain ⟨rfl,rfl⟩:=hnm
       obtain ⟨ao',cap',hv,hx⟩:=HS.out.2.kept HI.out
       simp only [Value.slice.injEq] at hv
       obtain ⟨rfl,hm',rfl⟩:=hv
       obtain ⟨b,off,rfl,hb,hc⟩:=hx (by omega)
       have t1:=hc 1 (by omega)
       have t2:=hc 2 (by omega)
       have t3:=hc 3 (by omega)
       have t4:=hc 4 (by omega)
       have s1:=I.out.2 1 (by omega)
       have s2:=I.out.2 2 (by omega)
       have s3:=I.out.2 3 (by omega)
       have HV:Hid (okW 2 vs ss = (decide (1<=ss.getD 4 0) && decide (ss.getD 1 0 + ss.getD 2 0 + ss.getD 3 0<=ss.getD 4 0))):=by
        show _ = _
        rw [HU.out]
        unfold hangB
        rw [if_pos rfl]
        rfl
       clear hx hc hb hm' HU
       generalize ss.getD 1 0 = y1 at *
       generalize ss.getD 2 0 = y2 at *
       generalize ss.getD 3 0 = y3 at *
       generalize ss.getD 4 0 = y4 at *
       have s1:0<=y1/\y1<=1000000000:=by unfold okS at s1; simpa using s1
       have s2:0<=y2/\y2<=1000000000:=by unfold okS at s2; simpa using s2
       have s3:0<=y3/\y3<=1000000000:=by unfold okS at s3; simpa using s3
       have e1:IntKind.i64.wrap (y1 + y2) = y1 + y2:=by rw [IntKind.wrap_i64]; omega
       have e2:IntKind.i64.wrap (y1 + y2 + y3) = y1 + y2 + y3:=by rw [IntKind.wrap_i64]; omega
       by_cases h4:0 < y4
       ·
        have h4':1<=y4:=by omega
        have h4d:decide (0 < y4) = true:=decide_eq_true h4
        rw [decide_eq_true h4',Bool.true_and] at HV
        go_upto_region 16 with fail
        go_quiet (fail)
        go_wp2_with fail
        all_goals
         go_ret
         refine ⟨HI.out.drewN _,congrArg (fun b => Ending.returned (Value.bool b)) ?_⟩
         rw [HV.out]
       ·
        have h4':¬ 1<=y4:=by omega
        have h4d:decide (0 < y4) = false:=decide_eq_false h4
        rw [decide_eq_false h4',Bool.false_and] at HV
        go_upto_region 16 with fail
        go_quiet (fail)
        go_wp2_with fail
        all_goals
         go_ret
         refine ⟨HI.out.drewN _,congrArg (fun b => Ending.returned (Value.bool b)) ?_⟩
         rw [HV.out]
      ·
       have HV:Hid (okW 2 vs ss = false):=by
        show _ = _
        rw [HU.out,Bool.and_eq_false_iff]
        left
        rw [Bool.eq_false_iff]
        intro hf
        exact hnm (fits2 hf)
       by_cases hj2:j = 2
       ·
        subst hj2
        have hi5:¬ i = 5:=fun h => hnm ⟨rfl,h⟩
        have hi5':¬ (i:Int) = 5:=by omega
        have hi5d:((i:Int) == 5) = false:=by simpa using hi5'
        have hi5e:(i == 5) = false:=by simpa using hi5
        go_upto_region 16 with fail
        go_quiet (fail)
        go_wp2_with fail
        all_goals
         go_ret
         refine ⟨HI.out.drewN _,congrArg (fun b => Ending.returned (Value.bool b)) ?_⟩
         rw [HV.out]
       ·
        have hj2':¬ (j:Int) = 2:=by omega
        have hj2d:((j:Int) == 2) = false:=by simpa using hj2'
        have hj2e:(j == 2) = false:=by simpa using hj2
        go_upto_region 16 with fail
        go_quiet (fail)
        go_wp2_with fail
        all_goals
         go_ret
         refine ⟨HI.out.drewN _,congrArg (fun b => Ending.returned (Value.bool b)) ?_⟩
         rw [HV.out]
     by_cases k3:k = 3
     ·
      subst k3
      by_cases hnm:(1<=j/\j<=16)/\i = j
      ·
       obtain ⟨⟨h1,h16⟩,rfl⟩:=hnm
       have h1':(1:Int)<=(i:Int):=by omega
       have h16':(i:Int)<=16:=by omega
       have HV:Hid (okW 3 vs ss = riseB ss):=by
        show _ = _
        rw [HU.out]
        have:fitsB 3 i i = true:=by unfold fitsB; simp; omega
        rw [this,Bool.true_and]
        rfl
       clear HU
       go_wp2_with fail
       refine (rrising_any a2 i c' ss _ (HS.out.2.kept HI.out.drew) hm).mono ?_
       rintro e w2 ⟨hk2,rfl⟩
       have HK2:=hid' (HI.out.drew.trans hk2)
       clear hk2
       go_wp2_with fail
       go_ret
       exact ⟨HK2.out,by rw [HV.out]; rfl⟩
      ·
       have HV:Hid (okW 3 vs ss = false):=by
        show _ = _
        rw [HU.out,Bool.and_eq_false_iff]
        left
        rw [Bool.eq_false_iff]
        intro hf
        exact hnm (fits3 hf)
       by_cases hji:j = i
       ·
        subst hji
        by_cases h1:1<=j
        ·
         have h16:¬ j<=16:=fun h => hnm ⟨⟨h1,h⟩,rfl⟩
         have h1':(1:Int)<=(j:Int):=by omega
         have h16':¬ (j:Int)<=16:=by omega
         go_wp2_with fail
         all_goals
          go_ret
          refine ⟨HI.out.drew,congrArg (fun b => Ending.returned (Value.bool b)) ?_⟩
          rw [HV.out]
        ·
         have h1':¬ (1:Int)<=(j:Int):=by omega
         go_wp2_with fail
         all_goals
          go_ret
          refine ⟨HI.out.drew,congrArg (fun b => Ending.returned (Value.bool b)) ?_⟩
          rw [HV.out]
       ·
        have hji':¬ (j:Int) = (i:Int):=by omega
        go_wp2_with fail
        all_goals
         go_ret
         refine ⟨HI.out.drew,congrArg (fun b => Ending.returned (Value.bool b)) ?_⟩
         rw [HV.out]
     by_cases k4:k = 4
     ·
      subst k4
      go_wp2_with fail
      all_goals
       go_ret
       refine ⟨HI.out.drew,congrArg (fun b => Ending.returned (Value.bool b)) ?_⟩
       rw [HU.out]
       clear HU HI I H HS HK HR
       unfold fitsB hangB
       simp_all
       try first | omega | (rw [Bool.eq_iff_iff]; simp; omega)
     have b1:(k == 1) = false:=by simpa using k1
     have b2:(k == 2) = false:=by simpa using k2
     have b3:(k == 3) = false:=by simpa using k3
     have b4:(k == 4) = false:=by simpa using k4
     have HV:Hid (okW k vs ss = false):=by
      show _ = _
      rw [HU.out]
      unfold fitsB
      rw [b1,b2,b3,b4]
      simp
     go_wp2_with fail
     go_ret
     exact ⟨HI.out.drew,by rw [HV.out]; rfl⟩
open Q (hid' Row3 Row2 okN)
set_option maxRecDepth 100000 in
set_option maxHeartbeats 4000000 in
theorem same3_any (a b:Option Addr) (n c c':Nat) (vs:List (Int × Int)) (w:World) (h1:NSl w (.slice a n c) vs) (h2:NSl w (.slice b n c') vs) (hn:n<=9223372036854775807) :
  Calls Tryz.prog 60 #[.slice a n c,.slice b n c'] w fun e w' => Kept w w'/\e = .returned (.bool true):=by
 have HS:=hid' (And.intro h1 h2)
 clear h1 h2
 go_enter Tryz.func60,Tryz.ntmps60
 go_wp2_with fail
 go_loopw [5] (fun vi wr => ∃ j:Nat,j<=n/\vi = .int .i64 (j:Int)/\Hid (Kept w wr)) (fun vi _ => n - (intOf vi).toNat)
 case atStart => exact ⟨0,Nat.zero_le _,rfl,Kept.refl w⟩
 case round =>
  obtain ⟨j,hj,rfl,I⟩:=hrel
  by_cases hlt:j < n
  ·
   have hltz:(j:Int) < (n:Int):=by omega
   obtain ⟨ao1,cap1,hv1,hx1⟩:=HS.out.1.kept I.out
   simp only [Value.slice.injEq] at hv1
   obtain ⟨rfl,hl1,rfl⟩:=hv1
   obtain ⟨b1,o1,rfl,hb1,hc1⟩:=hx1 (by omega)
   obtain ⟨ao2,cap2,hv2,hx2⟩:=HS.out.2.kept I.out
   simp only [Value.slice.injEq] at hv2
   obtain ⟨rfl,hl2,rfl⟩:=hv2
   obtain ⟨b2,o2,rfl,hb2,hc2⟩:=hx2 (by omega)
   obtain ⟨u0,u1⟩:=hc1 j (by omega)
   obtain ⟨v0,v1⟩:=hc2 j (by omega)
   clear hx1 hc1 hb1 hl1 hx2 hc2 hb2 hl2
   generalize vs.getD j (0,0) = y at u0 u1 v0 v1
   obtain ⟨y0,y1⟩:=y
   dsimp only at u0 u1 v0 v1
   go_wp2_with fail
   go_quiet (fail)
   go_wp2_with fail
   go_roundw
   case rel => exact ⟨j + 1,by omega,by go_num,I.out.drewN _⟩
   case measure => show n - ((j:Int) + 1).toNat < n - (j:Int).toNat; omega
  ·
   obtain rfl:j = n:=by omega
   have hltz:¬ (j:Int) < (j:Int):=by omega
   go_wp2_with fail
   go_ret
   exact ⟨I.out,rfl⟩
set_option maxRecDepth 100000 in
set_option maxHeartbeats 4000000 in
theorem same4_any (k:Int) (a1 a2 b1 b2:Option Addr) (n c m c' d d':Nat) (vs:List (Int × Int)) (ss:List Int) (w:World) (h1:NSl w (.slice a1 n c) vs) (h2:ISl w (.slice a2 m c') ss) (h3:NSl w (.slice b1 n d) vs) (h4:ISl w (.slice b2 m d') ss) (hn:n<=9223372036854775807) (hm:m<=9223372036854775807) :
  Calls Tryz.prog 26 #[.agg #[.int .i64 k,.slice a1 n c,.slice a2 m c'],.agg #[.int .i64 k,.slice b1 n d,.slice b2 m d']] w fun e w' => Kept w w'/\e = .returned (.bool true):=by
 have HS:=hid' (And.intro h1 (And.intro h2 (And.intro h3 h4)))
 clear h1 h2 h3 h4
 go_enter Tryz.func26,Tryz.ntmps26
 go_upto_region 1 with fail
 have hK:=((Kept.refl w).alloc (.cells #[.int .i64 k,.slice a1 n c,.slice a2 m c'] 30)).alloc (.cells #[.int .i64 k,.slice b1 n d,.slice b2 m d'] 30)
 have r1:=(Row3.alloc 30 w (.int .i64 k) (.slice a1 n c) (.slice a2 m c')).kept ((Kept.refl _).alloc (.cells #[.int .i64 k,.slice b1 n d,.slice b2 m d'] 30))
 have r2:=Row3.alloc 30 (w.alloc (.cells #[.int .i64 k,.slice a1 n c,.slice a2 m c'] 30)) (.int .i64 k) (.slice b1 n d) (.slice b2 m d')
 rw [World.size_alloc] at r2
 generalize (w.alloc (.cells #[.int .i64 k,.slice a1 n c,.slice a2 m c'] 30)).alloc (.cells #[.int .i64 k,.slice b1 n d,.slice b2 m d'] 30) = W at hK r1 r2 ⊢
 obtain ⟨p2,hp2⟩:∃ p,p = w.heap.size + 1:=⟨_,rfl⟩
 rw [<- hp2] at r2 ⊢
 obtain ⟨p1,hp1⟩:∃ p,p = w.heap.size:=⟨_,rfl⟩
 rw [<- hp1] at r1 ⊢
 have HV:Hid (∀ V,Kept W V->Row3 30 V p1 (.int .i64 k) (.slice a1 n c) (.slice a2 m c')/\Row3 30 V p2 (.int .i64 k) (.slice b1 n d) (.slice b2 m d')/\Kept w V):=fun V hV => ⟨r1.kept hV,r2.kept hV,hK.trans hV⟩
 have q0:=r1.c0
 have q1:=r1.c1
 have q2:=r1.c2
 have x0:=r2.c0
 have x1:=r2.c1
 have x2:=r2.c2
 clear hp1 hp2 hK r1 r2
 go_wp2_with fail
 go_loopw [5] (fun vi wr => ∃ j:Nat,j<=m/\vi = .int .i64 (j:Int)/\Hid (Kept W wr)) (fun vi _ => m - (intOf vi).toNat)
 case atStart => exact ⟨0,Nat.zero_le _,rfl,Kept.refl W⟩
 case round =>
  obtain ⟨j,hj,rfl,I⟩:=hrel
  clear q0 q1 q2 x0 x1 x2
  obtain ⟨rr1,rr2,kk⟩:=HV.out _ I.out
  have q1:=rr1.c1
  have q2:=rr1.c2
  have x1:=rr2.c1
  have x2:=rr2.c2
  have KK:=hid' kk
  clear rr1 rr2 kk
  by_cases hlt:j < m
  ·
   have hltz:(j:Int) < (m:Int):=by omega
   obtain ⟨ao1,cap1,hv1,hx1⟩:=HS.out.2.1.kept KK.out
   simp only [Value.slice.injEq] at hv1
   obtain ⟨rfl,hl1,rfl⟩:=hv1
   obtain ⟨b3,o1,rfl,hb1,hc1⟩:=hx1 (by omega)
   obtain ⟨ao2,cap2,hv2,hx2⟩:=HS.out.2.2.2.kept KK.out
   simp only [Value.slice.injEq] at hv2
   obtain ⟨rfl,hl2,rfl⟩:=hv2
   obtain ⟨b4,o2,rfl,hb2,hc2⟩:=hx2 (by omega)
   have u0:=hc1 j (by omega)
   have v0:=hc2 j (by omega)
   clear hx1 hc1 hb1 hl1 hx2 hc2 hb2 hl2
   generalize ss.getD j 0 = y at u0 v0
   go_wp2_with fail
   go_quiet (fail)
   go_wp2_with fail
   go_roundw
   case rel => exact ⟨j + 1,by omega,by go_num,I.out.drewN _⟩
   case measure => show m - ((j:Int) + 1).toNat < m - (j:Int).toNat; omega
  ·
   obtain rfl:j = m:=by omega
   have hltz:¬ (j:Int) < (j:Int):=by omega
   go_wp2_with fail
   refine (same3_any a1 b1 n c d vs _ (HS.out.1.kept KK.out) (HS.out.2.2.1.kept KK.out) hn).mono ?_
   rintro e w2 ⟨hk2,rfl⟩
   have HK2:=hid' (KK.out.trans hk2)
   clear hk2
   go_wp2_with fail
   go_ret
   exact ⟨HK2.out,rfl⟩
end V
end Go.Proofs.YtihnknnddldgiaaGreatDoor
