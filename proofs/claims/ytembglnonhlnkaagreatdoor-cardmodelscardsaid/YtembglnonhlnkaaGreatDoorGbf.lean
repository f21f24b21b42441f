/- Lemmas. -/
import Derived.Test.YtembglnonhlnkaaGreatDoorGag
import Derived.Test.YtembglnonhlnkaaGreatDoorGba
import Derived.Test.YtembglnonhlnkaaGreatDoorGbc
import Derived.Test.YtembglnonhlnkaaGreatDoorGbe
namespace Go.Proofs.YtembglnonhlnkaaGreatDoor
open Go.RowKit
namespace V
open Q (hid' Row3 Row2 okN okN_bd Scl)
theorem ft_held {v v':Value} {A A':Int} {S:Nat} (w:World) (h:FT w v A S) (h':FT w v' A' S) (hS:0 < S) :
  Calls Tryz.prog 52 #[v,v'] w fun e w' => Kept w w'/\e = .returned (.int .i64 (isgn A A')):=by
 obtain ⟨N,D,⟨s,a1,k1,c1,t,a2,k2,c2,rfl,n1,n2,l1,l2⟩,p,_,e⟩:=h
 obtain ⟨N',D',⟨s',b1,k3,c3,t',b2,k4,c4,rfl,n3,n4,l3,l4⟩,p',_,e'⟩:=h'
 refine (F.FHeld_any s t s' t' a1 a2 b1 b2 k1 c1 k2 c2 k3 c3 k4 c4 N D N' D' w n1 n2 n3 n4 (by omega)).mono ?_
 rintro e0 w' ⟨hk,rfl⟩
 have q:(D.toNat:Int) = D:=Int.toNat_of_nonneg (by omega)
 have q':(D'.toNat:Int) = D':=Int.toNat_of_nonneg (by omega)
 have:=isgn_terms (N:=N) (N':=N') (A:=A) (A':=A') (D:=D.toNat) (D':=D'.toNat) (S:=S) (by omega) (by omega) hS (by rw [q]; exact e) (by rw [q']; exact e')
 rw [q,q'] at this
 exact ⟨hk,by rw [this]⟩
theorem allN_of {l:List (Int × Int)} (h:∀ i,i < l.length->okN (l.getD i (0,0)).1 (l.getD i (0,0)).2 = true):allN l = true:=by
 unfold allN
 have:l.any (fun q => !okN q.1 q.2) = false:=by
  rw [List.any_eq_false]
  intro q hq
  obtain ⟨i,hi,rfl⟩:=List.getElem_of_mem hq
  have:=h i hi
  rw [List.getD_eq_getElem?_getD,List.getElem?_eq_getElem hi] at this
  simpa using this
 rw [this]; rfl
theorem okM_at {s:List UInt8} {k:Int} {gs vs:List (Int × Int)} (h:okM s k gs vs = true):(∀ i,i < gs.length->okN (gs.getD i (0,0)).1 (gs.getD i (0,0)).2 = true)/\(∀ i,i < vs.length->okN (vs.getD i (0,0)).1 (vs.getD i (0,0)).2 = true):=by
 have h0:=okM_all h
 constructor
 ·
  intro i hi
  refine h0.1 _ ?_
  rw [List.getD_eq_getElem?_getD,List.getElem?_eq_getElem hi]
  exact List.getElem_mem hi
 ·
  intro i hi
  refine h0.2.1 _ ?_
  rw [List.getD_eq_getElem?_getD,List.getElem?_eq_getElem hi]
  exact List.getElem_mem hi
open Go.Sort (grow) in
set_option maxRecDepth 100000 in
set_option maxHeartbeats 8000000 in
theorem rvalidM_any (s:ByteArray) (k:Int) (a1 a2:Option Addr) (n c m c':Nat) (gs vs:List (Int × Int)) (w:World) (hs:s.size<=9223372036854775807) (h1:NSl w (.slice a1 n c) gs) (h2:NSl w (.slice a2 m c') vs) (hn:n<=4611686018427387903) (hm:m<=4611686018427387903) :
  Calls Tryz.prog 29 #[.agg #[.string s,.int .u8 k,.slice a1 n c,.slice a2 m c']] w fun e w' => Kept w w'/\e = .returned (.bool (okM s.data.toList k gs vs)):=by
 have HS:=hid' (And.intro h1 h2)
 have HL:=hid' (show m = vs.length/\n = gs.length from ⟨h2.len,h1.len⟩)
 clear h1 h2
 have HN:=hid' (rname_any s)
 have hsz:=hs
 go_enter Tryz.func29,Tryz.ntmps29
 go_upto_region 1 with fail
 have hK:=(Kept.refl w).alloc (.cells #[.string s,.int .u8 k,.slice a1 n c,.slice a2 m c'] 43)
 have hR:=Row4.alloc 43 w (.string s) (.int .u8 k) (.slice a1 n c) (.slice a2 m c')
 generalize w.alloc (.cells #[.string s,.int .u8 k,.slice a1 n c,.slice a2 m c'] 43) = W at hK hR ⊢
 obtain ⟨p,hp⟩:∃ p,p = w.heap.size:=⟨_,rfl⟩
 rw [<- hp] at hR ⊢
 have HB:=hid' (And.intro hK hR)
 have q0:=hR.c0
 clear hp hK hR
 go_wp2_with fail
 refine (HN.out _ hsz).mono ?_
 rintro e w1 ⟨rfl,rfl⟩
 obtain ⟨b1,hb1⟩:∃ b,b = okName s.data.toList:=⟨_,rfl⟩
 rw [<- hb1]
 have HB1:=hid' hb1
 clear hb1 q0 HN
 cases b1
 ·
  go_wp2_with fail
  go_ret
  exact ⟨HB.out.1,by unfold okM; rw [<- HB1.out]; rfl⟩
 go_wp2_with fail
 go_loopw [3] (fun vi wr => ∃ j:Nat,j<=n/\vi = .int .i64 (j:Int)/\Hid (Kept w1 wr/\∀ i,i < j->okN (gs.getD i (0,0)).1 (gs.getD i (0,0)).2 = true)) (fun vi _ => n - (intOf vi).toNat)
 case atStart => exact ⟨0,Nat.zero_le _,rfl,Kept.refl _,fun i hi => absurd hi (Nat.not_lt_zero _)⟩
 case round =>
  obtain ⟨j,hj,rfl,H⟩:=hrel
  have e2:=(HB.out.2.kept H.out.1).c2
  by_cases hlt:j < n
  ·
   have hltz:(j:Int) < (n:Int):=by omega
   obtain ⟨ao',cap',hv,hx⟩:=HS.out.1.kept (HB.out.1.trans H.out.1)
   simp only [Value.slice.injEq] at hv
   obtain ⟨rfl,hq',rfl⟩:=hv
   obtain ⟨b,off,rfl,hb,hc⟩:=hx (by omega)
   obtain ⟨d0,d1⟩:=hc j (by omega)
   obtain ⟨x,hX⟩:∃ x,x = gs.getD j (0,0):=⟨_,rfl⟩
   rw [<- hX] at d0 d1
   have HX:=hid' hX
   obtain ⟨x0,x1⟩:=x
   dsimp only at d0 d1
   clear hq' hx hc hX hb
   go_wp2_with fail
   refine (Q.RValid_any x0 x1 _).mono ?_
   rintro e w2 ⟨hk2,rfl⟩
   have HK2:=hid' (H.out.1.trans hk2)
   obtain ⟨o1,ho1⟩:∃ o,o = okN x0 x1:=⟨_,rfl⟩
   rw [<- ho1]
   have HO:=hid' (show o1 = okN (gs.getD j (0,0)).1 (gs.getD j (0,0)).2 by rw [ho1,<- HX.out])
   clear hk2 d0 d1 e2 ho1 HX
   cases o1
   ·
    go_wp2_with fail
    go_ret
    refine ⟨HB.out.1.trans HK2.out,congrArg (fun b => Ending.returned (Value.bool b)) ?_⟩
    symm
    rw [Bool.eq_false_iff]
    intro hok
    have:=(okM_at hok).1 j (by have:=HL.out; omega)
    rw [<- HO.out] at this
    cases this
   ·
    go_wp2_with fail
    go_roundw
    case rel =>
     refine ⟨j + 1,by omega,by go_num,HK2.out,fun i hi => ?_⟩
     by_cases e:i = j
     ·
      subst e; exact HO.out.symm
     ·
      exact H.out.2 i (by omega)
    case measure => show n - ((j:Int) + 1).toNat < n - (j:Int).toNat; omega
  ·
   obtain rfl:j = n:=by omega
   have hltz:¬ (j:Int) < (j:Int):=by omega
   have HG:=hid' (fun i (hi:i < gs.length) => H.out.2 i (by have:=HL.out; omega))
   have HB:=hid' (And.intro (HB.out.1.trans H.out.1) (HB.out.2.kept H.out.1))
   clear H hlt
   go_wp2_with fail
   clear e2
   generalize hW:wr = W at HB ⊢
   clear hW
   go_loopw [4] (fun vi wr => ∃ i:Nat,i<=m/\vi = .int .i64 (i:Int)/\Hid (Kept W wr/\(∀ l,l < i->okN (vs.getD l (0,0)).1 (vs.getD l (0,0)).2 = true)/\(k = 100->∀ l,l + 1 < i->U (vs.getD l (0,0)).1 (vs.getD l (0,0)).2 < U (vs.getD (l + 1) (0,0)).1 (vs.getD (l + 1) (0,0)).2))) (fun vi _ => m - (intOf vi).toNat)
   case atStart => exact ⟨0,Nat.zero_le _,rfl,Kept.refl _,(fun i hi => absurd hi (Nat.not_lt_zero _)),fun _ i hi => absurd hi (Nat.not_lt_zero _)⟩
   case round =>
    obtain ⟨i,hi,rfl,H⟩:=hrel
    have e3:=(HB.out.2.kept H.out.1).c3
    by_cases hlt:i < m
    ·
     have hltm:(i:Int) < (m:Int):=by omega
     obtain ⟨ao',cap',hv,hx⟩:=HS.out.2.kept (HB.out.1.trans H.out.1)
     simp only [Value.slice.injEq] at hv
     obtain ⟨rfl,hq',rfl⟩:=hv
     obtain ⟨b,off,rfl,hb,hc⟩:=hx (by omega)
     obtain ⟨d2,d3⟩:=hc i (by omega)
     obtain ⟨y,hY⟩:∃ y,y = vs.getD i (0,0):=⟨_,rfl⟩
     rw [<- hY] at d2 d3
     have HY:=hid' hY
     obtain ⟨y0,y1⟩:=y
     dsimp only at d2 d3
     have HC:=hid' (And.intro hb hc)
     clear hq' hx hc hY hb
     go_wp2_with fail
     refine (Q.RValid_any y0 y1 _).mono ?_
     rintro e W7 ⟨hk2,rfl⟩
     have HK7:=hid' (H.out.1.trans hk2)
     obtain ⟨o1,ho1⟩:∃ o,o = okN y0 y1:=⟨_,rfl⟩
     rw [<- ho1]
     have HO:=hid' ho1
     have HO1':=hid' (show o1 = okN (vs.getD i (0,0)).1 (vs.getD i (0,0)).2 by rw [ho1,<- HY.out])
     have HC:=hid' (show b < W7.heap.size/\∀ j,j < vs.length->W7.cell? ⟨b,off + j * 2,none⟩ = some (.int .i64 (vs.getD j (0,0)).1)/\W7.cell? ⟨b,off + j * 2 + 1,none⟩ = some (.int .i64 (vs.getD j (0,0)).2) from
      ⟨Nat.lt_of_lt_of_le HC.out.1 hk2.size,fun j hj => ⟨(Below.cell hk2 (p:=⟨b,off + j * 2,none⟩) HC.out.1).trans (HC.out.2 j hj).1,(Below.cell hk2 (p:=⟨b,off + j * 2 + 1,none⟩) HC.out.1).trans (HC.out.2 j hj).2⟩⟩)
     clear hk2 d2 d3 e3 ho1
     cases o1
     ·
      go_wp2_with fail
      go_ret
      refine ⟨HB.out.1.trans HK7.out,congrArg (fun b => Ending.returned (Value.bool b)) ?_⟩
      symm
      rw [Bool.eq_false_iff]
      intro hok
      have:=(okM_at hok).2 i (by have:=HL.out; omega)
      rw [<- HO1'.out] at this
      cases this
     ·
      by_cases hkd:k = 100
      ·
       by_cases hi0:i = 0
       ·
        subst hi0
        subst hkd
        have hz:¬ (0:Int) < ((0:Nat):Int):=by omega
        have KR:Kept W7 W7.drew:=(Kept.refl _).drew
        have e1:=(HB.out.2.kept HK7.out).c1
        have hml:=(HB.out.2.kept HK7.out).lt
        have sS:=hid' (fun (V:World) (K:Kept W7 V) => (show V.cell? ⟨p,1,none⟩ = some (.int .u8 100) from (Below.cell K (p:=⟨p,1,none⟩) hml).trans e1))
        clear e1 hml
        go_upto_region 13 with fail
        refine wp_region_held_drew (S:=fun w' => w'.cell? ⟨p,1,none⟩ = some (.int .u8 100)) (by kernel_rfl) (sS.out _ KR) (fun hHeld => ?_)
        generalize W7.drew = Wd at KR hHeld ⊢
        refine tk 0 hHeld ?_
        refine tk 1 hHeld ?_
        refine tk 2 hHeld ?_
        refine tk 3 hHeld ?_
        refine tk 4 hHeld ?_
        refine tk 5 hHeld ?_
        refine tk 6 hHeld ?_
        refine tk 7 hHeld ?_
        refine sk 8 hHeld ?_
        refine sk 9 hHeld ?_
        refine sk 10 hHeld ?_
        refine sk 11 hHeld ?_
        refine sk 12 hHeld ?_
        refine sk 13 hHeld ?_
        refine sk 14 hHeld ?_
        refine sk 15 hHeld ?_
        refine sk 16 hHeld ?_
        refine sk 17 hHeld ?_
        refine sk 18 hHeld ?_
        refine sk 19 hHeld ?_
        refine sk 20 hHeld ?_
        refine sk 21 hHeld ?_
        refine sk 22 hHeld ?_
        refine tk 23 hHeld ?_
        refine dn ?_
        have HKR:=hid' KR
        clear sS hHeld KR
        go_wp2_with fail
        go_roundw
        case rel =>
         refine ⟨0 + 1,by omega,by go_num,HK7.out.trans HKR.out,(fun l hl => ?_),fun _ l hl => by omega⟩
         obtain rfl:l = 0:=by omega
         exact HO1'.out.symm
        case measure => show m - (((0:Nat):Int) + 1).toNat < m - ((0:Nat):Int).toNat; omega
       ·
        obtain ⟨j,rfl⟩:∃ j,i = j + 1:=⟨i - 1,by omega⟩
        subst hkd
        have ec:((j + 1:Nat):Int) = (j:Int) + 1:=by omega
        rw [ec] at hltm ⊢
        obtain ⟨hb,hc⟩:=HC.out
        obtain ⟨d0,d1⟩:=hc j (by have:=HL.out; omega)
        obtain ⟨d2,d3⟩:=hc (j + 1) (by have:=HL.out; omega)
        obtain ⟨x,hX⟩:∃ x,x = vs.getD j (0,0):=⟨_,rfl⟩
        rw [<- hX] at d0 d1
        rw [<- HY.out] at d2 d3
        have HX:=hid' (And.intro hX HY.out)
        have ok0:okN (vs.getD j (0,0)).1 (vs.getD j (0,0)).2 = true:=H.out.2.1 j (by omega)
        rw [<- hX] at ok0
        have ok1:okN y0 y1 = true:=HO.out.symm
        have HO1:=hid' HO1'.out.symm
        obtain ⟨x0,x1⟩:=x
        dsimp only at d0 d1 d2 d3 ok0
        clear hc hX HC HO HO1' hi0 ec HY
        have hj1:(0:Int) < (j:Int) + 1:=by omega
        have hj2:(j:Int) + 1 - 1 = (j:Int):=by omega
        have hj3:IntKind.i64.wrap (j:Int) = (j:Int):=by rw [IntKind.wrap_i64]; omega
        have hj5:(j:Int) < (m:Int):=by omega
        have hj6:((j:Int) + 1).toNat = j + 1:=by omega
        have hj7:(0:Int)<=(j:Int) + 1:=by omega
        have hsz:=(HB.out.2.kept H.out.1).lt
        have KT:Kept W W7.drew:=HK7.out.drew
        have KR:Kept W7 W7.drew:=(Kept.refl _).drew
        have e1:=(HB.out.2.kept HK7.out).c1
        have e3:=(HB.out.2.kept HK7.out).c3
        have hml:=(HB.out.2.kept HK7.out).lt
        have sS:=hid' (fun (V:World) (K:Kept W7 V) => (show V.cell? ⟨p,1,none⟩ = some (.int .u8 100)/\V.cell? ⟨p,3,none⟩ = some (.slice (some ⟨b,off,none⟩) m c')/\V.cell? ⟨b,off + j * 2,none⟩ = some (.int .i64 x0)/\V.cell? ⟨b,off + j * 2 + 1,none⟩ = some (.int .i64 x1)/\V.cell? ⟨b,off + (j + 1) * 2,none⟩ = some (.int .i64 y0)/\V.cell? ⟨b,off + (j + 1) * 2 + 1,none⟩ = some (.int .i64 y1) from ⟨(Below.cell K (p:=⟨p,1,none⟩) hml).trans e1,(Below.cell K (p:=⟨p,3,none⟩) hml).trans e3,(Below.cell K (p:=⟨b,off + j * 2,none⟩) hb).trans d0,(Below.cell K (p:=⟨b,off + j * 2 + 1,none⟩) hb).trans d1,(Below.cell K (p:=⟨b,off + (j + 1) * 2,none⟩) hb).trans d2,(Below.cell K (p:=⟨b,off + (j + 1) * 2 + 1,none⟩) hb).trans d3⟩))
        clear e1 e3 hml d0 d1 d2 d3 hb hsz
        go_upto_region 13 with fail
        refine wp_region_held_drew (S:=fun w' => w'.cell? ⟨p,1,none⟩ = some (.int .u8 100)/\w'.cell? ⟨p,3,none⟩ = some (.slice (some ⟨b,off,none⟩) m c')/\w'.cell? ⟨b,off + j * 2,none⟩ = some (.int .i64 x0)/\w'.cell? ⟨b,off + j * 2 + 1,none⟩ = some (.int .i64 x1)/\w'.cell? ⟨b,off + (j + 1) * 2,none⟩ = some (.int .i64 y0)/\w'.cell? ⟨b,off + (j + 1) * 2 + 1,none⟩ = some (.int .i64 y1)) (by kernel_rfl) (sS.out _ KR) (fun hHeld => ?_)
        generalize W7.drew = Wd at KT KR hHeld ⊢
        refine tk 0 hHeld ?_
        refine tk 1 hHeld ?_
        refine tk 2 hHeld ?_
        refine tk 3 hHeld ?_
        refine tk 4 hHeld ?_
        refine tk 5 hHeld ?_
        refine tk 6 hHeld ?_
        refine tk 7 hHeld ?_
        refine tk 8 hHeld ?_
        refine tk 9 hHeld ?_
        refine tk 10 hHeld ?_
        refine tk 11 hHeld ?_
        refine tk 12 hHeld ?_
        refine tk 13 hHeld ?_
        refine tk 15 hHeld ?_
        refine tk 16 hHeld ?_
        refine tk 17 hHeld ?_
        refine tk 18 hHeld ?_
        refine tk 19 hHeld ?_
        refine rdy 14 fun K hK => ?_
        go_simp
        refine (ft_num _ x0 x1 ok0).mono ?_
        rintro e wa ⟨hka,ua,rfl,fa⟩
        have KT:=KT.trans hka
        have KR:=KR.trans hka
        refine hK.out _ _ (sS.out _ KR) (fun hHeld => ?_)
        clear hK K hka
        refine rdy 20 fun K hK => ?_
        go_simp
        refine (ft_num _ y0 y1 ok1).mono ?_
        rintro e wb ⟨hkb,ub,rfl,fb⟩
        have KT:=KT.trans hkb
        have KR:=KR.trans hkb
        have fa:=fa.kept hkb
        refine hK.out _ _ (sS.out _ KR) (fun hHeld => ?_)
        clear hK K hkb
        refine rdy 21 fun K hK => ?_
        go_simp
        refine (ft_held _ fa fb (by decide)).mono ?_
        rintro e wd ⟨hkd,rfl⟩
        have KT:=KT.trans hkd
        have KR:=KR.trans hkd
        obtain ⟨ig,hig⟩:∃ ig,ig = isgn (U x0 x1) (U y0 y1):=⟨_,rfl⟩
        rw [<- hig]
        have HIG:=hid' hig
        refine hK.out _ _ (sS.out _ KR) (fun hHeld => ?_)
        clear hK K hkd fa fb hig
        by_cases hg:0<=ig
        ·
         have hg':(0:Int)<=ig:=hg
         refine tk 22 hHeld ?_
         refine tk 23 hHeld ?_
         refine dn ?_
         have HT:=hid' KT
         clear sS hHeld KR KT
         go_wp2_with fail
         go_ret
         refine ⟨HB.out.1.trans HT.out,congrArg (fun b => Ending.returned (Value.bool b)) ?_⟩
         symm
         rw [Bool.eq_false_iff]
         intro hok
         have hr:=(okM_all hok).2.2.1
         unfold riseN at hr
         have:=of_decide_eq_true hr j (by have:=HL.out; omega)
         rw [<- HX.out.1,<- HX.out.2] at this
         have h2:=HIG.out
         have h3:=isgn_neg (a:=U x0 x1) (b:=U y0 y1)
         dsimp only at this
         rw [<- h2] at h3
         have:=h3.2 this
         omega
        ·
         have hg':¬ (0:Int)<=ig:=hg
         refine tk 22 hHeld ?_
         refine tk 23 hHeld ?_
         refine dn ?_
         have HT:=hid' KT
         clear sS hHeld KR KT
         have HIL:=hid' (show U x0 x1 < U y0 y1 by
          have h2:=HIG.out
          have h3:=isgn_neg (a:=U x0 x1) (b:=U y0 y1)
          rw [<- h2] at h3
          exact h3.1 (by omega))
         go_wp2_with fail
         go_roundw
         case rel =>
          refine ⟨j + 1 + 1,by omega,by push_cast; go_num,HT.out,fun i hi => ?_,fun hk i hi => ?_⟩
          ·
           by_cases e:i = j + 1
           ·
            subst e; exact HO1.out
           ·
            exact H.out.2.1 i (by omega)
          ·
           by_cases e:i = j
           ·
            subst e
            rw [<- HX.out.1,<- HX.out.2]
            exact HIL.out
           ·
            exact H.out.2.2 hk i (by omega)
         case measure => show m - ((j:Int) + 1 + 1).toNat < m - ((j:Int) + 1).toNat; omega
      ·
       have hkb:(k == 100) = false:=by simpa using hkd
       have KR:Kept W7 W7.drew:=(Kept.refl _).drew
       have e1:=(HB.out.2.kept HK7.out).c1
       have hml:=(HB.out.2.kept HK7.out).lt
       have sS:=hid' (fun (V:World) (K:Kept W7 V) => (show V.cell? ⟨p,1,none⟩ = some (.int .u8 k) from (Below.cell K (p:=⟨p,1,none⟩) hml).trans e1))
       clear e1 hml
       go_upto_region 13 with fail
       refine wp_region_held_drew (S:=fun w' => w'.cell? ⟨p,1,none⟩ = some (.int .u8 k)) (by kernel_rfl) (sS.out _ KR) (fun hHeld => ?_)
       generalize W7.drew = Wd at KR hHeld ⊢
       refine tk 0 hHeld ?_
       refine tk 1 hHeld ?_
       refine tk 2 hHeld ?_
       refine tk 3 hHeld ?_
       refine sk 4 hHeld ?_
       refine sk 5 hHeld ?_
       refine tk 6 hHeld ?_
       refine tk 7 hHeld ?_
       refine sk 8 hHeld ?_
       refine sk 9 hHeld ?_
       refine sk 10 hHeld ?_
       refine sk 11 hHeld ?_
       refine sk 12 hHeld ?_
       refine sk 13 hHeld ?_
       refine sk 14 hHeld ?_
       refine sk 15 hHeld ?_
       refine sk 16 hHeld ?_
       refine sk 17 hHeld ?_
       refine sk 18 hHeld ?_
       refine sk 19 hHeld ?_
       refine sk 20 hHeld ?_
       refine sk 21 hHeld ?_
       refine sk 22 hHeld ?_
       refine tk 23 hHeld ?_
       refine dn ?_
       have HKR:=hid' KR
       clear sS hHeld KR
       go_wp2_with fail
       go_roundw
       case rel =>
        refine ⟨i + 1,by omega,by go_num,HK7.out.trans HKR.out,(fun l hl => ?_),fun h => absurd h hkd⟩
        by_cases e:l = i
        ·
         subst e; exact HO1'.out.symm
        ·
         exact H.out.2.1 l (by omega)
       case measure => show m - ((i:Int) + 1).toNat < m - (i:Int).toNat; omega
    ·
     obtain rfl:i = m:=by omega
     have hltm:¬ (i:Int) < (i:Int):=by omega
     have HV:=hid' (And.intro (fun l (hl:l < vs.length) => H.out.2.1 l (by have:=HL.out; omega)) (fun (hk:k = 100) l (hl:l < vs.length - 1) => H.out.2.2 hk l (by have:=HL.out; omega)))
     have HB:=hid' (And.intro (HB.out.1.trans H.out.1) (HB.out.2.kept H.out.1))
     have HA:=hid' (show okM s.data.toList k gs vs = (fitsM k j i && riseN vs) by
      unfold okM
      rw [<- HB1.out,<- HL.out.1,<- HL.out.2,allN_of HG.out,allN_of HV.out.1]
      simp)
     have HR:=hid' (fun (hk:k = 100) => (show riseN vs = true from decide_eq_true (HV.out.2 hk)))
     clear H hlt HV
     have e1:=HB.out.2.c1
     have e2:=HB.out.2.c2
     by_cases hk1:k = 115
     ·
      have hkb:(k == 115) = true:=by simpa using hk1
      by_cases hn2:j = 2
      ·
       have hn2':(((j:Nat):Int) == 2) = true:=by simp [hn2]
       by_cases hm1:i = 1
       ·
        have hm1':(((i:Nat):Int) == 1) = true:=by simp [hm1]
        have HF:=hid' (show okM s.data.toList k gs vs = true by
         rw [HA.out]
         have:riseN vs = true:=decide_eq_true (fun l hl => by have:=HL.out; omega)
         rw [this]; unfold fitsM; rw [if_neg (by omega),if_pos hk1]; simp [hn2,hm1])
        clear hn2 hm1 hk1
        go_wp2_with fail
        go_ret
        exact ⟨HB.out.1,by rw [HF.out]; rfl⟩
       ·
        have hm1':(((i:Nat):Int) == 1) = false:=by simp; omega
        have HF:=hid' (show okM s.data.toList k gs vs = false by
         rw [HA.out]; unfold fitsM; rw [if_neg (by omega),if_pos hk1]; simp [hm1])
        clear hn2 hm1 hk1
        go_wp2_with fail
        go_ret
        exact ⟨HB.out.1,by rw [HF.out]; rfl⟩
      ·
       have hn2':(((j:Nat):Int) == 2) = false:=by simp; omega
       have HF:=hid' (show okM s.data.toList k gs vs = false by
        rw [HA.out]; unfold fitsM; rw [if_neg (by omega),if_pos hk1]; simp [hn2])
       clear hn2 hk1
       go_wp2_with fail
       go_ret
       exact ⟨HB.out.1,by rw [HF.out]; rfl⟩
     ·
      have hkb:(k == 115) = false:=by simpa using hk1
      by_cases hk2:k = 100
      ·
       have hkb2:(k == 100) = true:=by simpa using hk2
       have HRT:=hid' (HR.out hk2)
       by_cases g1:1<=j
       ·
        have g1':(1:Int)<=(j:Int):=by omega
        by_cases g2:j<=4
        ·
         have g2':(j:Int)<=4:=by omega
         by_cases g3:i + 1 = j
         ·
          have g3':((i:Int) + 1 == (j:Int)) = true:=by simp; omega
          have HF:=hid' (show okM s.data.toList k gs vs = true by
           rw [HA.out,HRT.out]; unfold fitsM; rw [if_pos hk2]; simp; omega)
          clear g1 g2 g3 hk1 hk2
          go_wp2_with fail
          go_ret
          exact ⟨HB.out.1,by rw [HF.out]; rfl⟩
         ·
          have g3':((i:Int) + 1 == (j:Int)) = false:=by simp; omega
          have HF:=hid' (show okM s.data.toList k gs vs = false by
           rw [HA.out,HRT.out]; unfold fitsM; rw [if_pos hk2]; simp; omega)
          clear g1 g2 g3 hk1 hk2
          go_wp2_with fail
          go_ret
          exact ⟨HB.out.1,by rw [HF.out]; rfl⟩
        ·
         have g2':¬ (j:Int)<=4:=by omega
         have HF:=hid' (show okM s.data.toList k gs vs = false by
          rw [HA.out,HRT.out]; unfold fitsM; rw [if_pos hk2]; simp; omega)
         clear g1 g2 hk1 hk2
         go_wp2_with fail
         go_ret
         exact ⟨HB.out.1,by rw [HF.out]; rfl⟩
       ·
        have g1':¬ (1:Int)<=(j:Int):=by omega
        have HF:=hid' (show okM s.data.toList k gs vs = false by
         rw [HA.out,HRT.out]; unfold fitsM; rw [if_pos hk2]; simp; omega)
        clear g1 hk1 hk2
        go_wp2_with fail
        go_ret
        exact ⟨HB.out.1,by rw [HF.out]; rfl⟩
      ·
       have hkb2:(k == 100) = false:=by simpa using hk2
       have HF:=hid' (show okM s.data.toList k gs vs = false by
        rw [HA.out]; unfold fitsM; rw [if_neg hk2,if_neg hk1]; rfl)
       clear hk1 hk2
       go_wp2_with fail
       go_ret
       exact ⟨HB.out.1,by rw [HF.out]; rfl⟩
open Q (hid' parseOf Lett ErrV Tab okN textOf)
open X (bs OwnS RS strs bs_list bs_size)
set_option maxRecDepth 100000 in
set_option maxHeartbeats 4000000 in
theorem rtx7_any (m x:Int) (w:World) :
  Calls Tryz.prog 45 #[.agg #[.int .i64 m,.int .i64 x]] w fun e w' => Kept w w'/\e = .returned (.string (bs (tx (m,x)))):=by
 have hc:=fun V => Q.rtext_any m x V
 have HT:=hid' (show ∀ e,Q.TextIs e m x->∃ z,e = .returned (.tuple #[.string (bs (tx (m,x))),.int .i64 z]) by
  rintro e (⟨h1,rfl⟩ | ⟨h1,t,ht,rfl⟩)
  ·
   exact ⟨30,by unfold tx; rw [if_neg (by rw [h1]; decide)]; rfl⟩
  ·
   exact ⟨0,by unfold tx; rw [if_pos h1,<- ht]; rfl⟩)
 generalize bs (tx (m,x)) = r at HT ⊢
 go_enter Tryz.func45,Tryz.ntmps45
 go_wp2_with fail
 refine (hc _).mono ?_
 rintro e w1 ⟨hk,he⟩
 obtain ⟨z,rfl⟩:=HT.out e he
 have HK:=hid' hk
 clear hk hc he
 go_wp2_with fail
 go_ret
 exact ⟨by first | exact HK.out | exact ((Kept.refl _).alloc _).trans HK.out,rfl⟩
set_option maxRecDepth 100000 in
set_option maxHeartbeats 8000000 in
theorem rwriteM_any (s:ByteArray) (k:Int) (a1 a2:Option Addr) (n c n2 c2:Nat) (gs vs:List (Int × Int)) (w:World) (hs:s.size<=9223372036854775807) (h1:NSl w (.slice a1 n c) gs) (h2:NSl w (.slice a2 n2 c2) vs) (hn:n<=4611686018427387903) (hm:n2<=4611686018427387903) :
  Calls Tryz.prog 19 #[.agg #[.string s,.int .u8 k,.slice a1 n c,.slice a2 n2 c2]] w fun e w' => Kept w w'/\WmIs w.heap.size w' e ⟨s.data.toList,k,gs,vs⟩:=by
 have HC0:=hid' (And.intro h1 h2)
 have hva:=fun V (K:Kept w V) => rvalidM_any s k a1 a2 n c n2 c2 gs vs V hs (h1.kept K) (h2.kept K) hn hm
 have HLN:=hid' (And.intro h1.len h2.len)
 clear h1 h2
 obtain ⟨i0,hi,hz0,hz1,hz2⟩:=info_parts X.info_str
 cases hok:okM s.data.toList k gs vs
 ·
  rw [hok] at hva
  have HOK:=hid' hok
  go_enter Tryz.func19,Tryz.ntmps19
  go_wp2_with fail
  refine (hva _ ((Kept.refl w).alloc _)).mono ?_
  rintro e w1 ⟨hk,rfl⟩
  have HK:=hid' (((Kept.refl w).alloc _).trans hk)
  clear hk hva
  go_wp2_with fail
  go_ret2
  exact ⟨HK.out,.inl ⟨HOK.out,rfl⟩⟩
 ·
  rw [hok] at hva
  have HOK:=hid' (And.intro hok (okM_kind hok))
  clear hok
  go_enter Tryz.func19,Tryz.ntmps19
  go_wp2_with fail
  have hK:=(Kept.refl w).alloc (.cells #[.string s,.int .u8 k,.slice a1 n c,.slice a2 n2 c2] 43)
  have hA:=RowL.alloc 43 w [.string s,.int .u8 k,.slice a1 n c,.slice a2 n2 c2]
  generalize w.alloc (.cells #[.string s,.int .u8 k,.slice a1 n c,.slice a2 n2 c2] 43) = W0 at hK hA ⊢
  refine (hva _ hK).mono ?_
  rintro e w1 ⟨hk1,rfl⟩
  obtain ⟨p,hp⟩:∃ q,q = w.heap.size:=⟨_,rfl⟩
  rw [<- hp] at hA ⊢
  have HP:=hid' hp
  have HW:=hid' (And.intro (hK.trans hk1) (hA.kept hk1))
  clear hK hA hk1 hva hp
  have f0:=HW.out.2.cell 0 (.string s)
  have f1:=HW.out.2.cell 1 (.int .u8 k)
  have hpw:¬ p = w1.heap.size:=by have:=HW.out.2.lt; omega
  have KN:=(Kept.refl w1).alloc (.cells #[.string ⟨#[46,109,111,100,101,108]⟩,.string s,.string ⟨#[100]⟩] 9)
  have f1':=(HW.out.2.kept KN).cell 1 (.int .u8 k)
  go_upto_if 14 with fail
  --%A
  go_cut [] (fun wc => Hid (Kept w1 wc/\OwnS (w.heap.size + 1) wc (.slice (some ⟨w1.heap.size,0,none⟩) 3 3) [[46,109,111,100,101,108],s.data.toList,[k.toNat.toUInt8]]))
  case first =>
   have hB:w.heap.size + 1<=w1.heap.size:=by have:=HW.out.2.lt; have:=HP.out; omega
   rcases HOK.out.2.1 with rfl | rfl
   ·
    have HF:=hid' (And.intro KN (lit3_own w1 (w.heap.size + 1) ⟨#[46,109,111,100,101,108]⟩ s ⟨#[100]⟩ hB))
    clear KN f1 f1' f0
    go_wp2_with fail
    go_meet
    case rel => exact HF.out
   ·
    have HF:=hid' (And.intro ((Kept.refl w1).alloc (.cells #[.string ⟨#[46,109,111,100,101,108]⟩,.string s,.string ⟨#[115]⟩] 9)) (lit3_own w1 (w.heap.size + 1) ⟨#[46,109,111,100,101,108]⟩ s ⟨#[115]⟩ hB))
    clear KN f1 f1' f0
    go_wp2_with fail
    go_meet
    case rel => exact HF.out
  case rest =>
   --%B
   have HI0:Hid (CwI w wc p 43 [.string s,.int .u8 k,.slice a1 n c,.slice a2 n2 c2] (.slice (some ⟨w1.heap.size,0,none⟩) 3 3) ([[46,109,111,100,101,108],s.data.toList,[k.toNat.toUInt8]] ++ mw gs vs 0)):=⟨HW.out.1.trans hcut.out.1,by rw [HP.out]; exact Nat.le_refl _,HW.out.2.kept hcut.out.1,by rw [mw,List.append_nil]; exact hcut.out.2⟩
   generalize (Value.slice (some ⟨w1.heap.size,0,none⟩) 3 3) = u0 at HI0 ⊢
   clear hcut KN f1 f1' f0 hpw
   have hn4:n<=4:=by have h1:=HOK.out.2.2.2.1; have h2:=HLN.out.1; omega
   go_wp2_with fail
   go_loopw [4,5] (fun vu vi wr => ∃ j:Nat,j<=n/\vi = .int .i64 (j:Int)/\Hid (CwI w wr p 43 [.string s,.int .u8 k,.slice a1 n c,.slice a2 n2 c2] vu ([[46,109,111,100,101,108],s.data.toList,[k.toNat.toUInt8]] ++ mw gs vs j))) (fun _ vi _ => n - (intOf vi).toNat)
   case atStart => exact ⟨0,Nat.zero_le _,rfl,HI0.out⟩
   case round =>
    obtain ⟨j,hj,rfl,HI⟩:=hrel
    clear HI0
    have f2:=HI.out.row.cell 2 (.slice a1 n c)
    by_cases hjt:j < n
    ·
     have hji:(j:Int) < (n:Int):=by omega
     obtain ⟨wk,hwk⟩:∃ l,l = [[46,109,111,100,101,108],s.data.toList,[k.toNat.toUInt8]] ++ mw gs vs j:=⟨_,rfl⟩
     rw [<- hwk] at HI
     have HWK:=hid' hwk
     have HLW:=hid' (show wk.length<=100 by rw [hwk,List.length_append]; have:=mw_len gs vs j; simp only [List.length_cons,List.length_nil]; omega)
     clear hwk f2
     by_cases hj0:j = 0
     ·
      --%C
      have hjn:¬ (0:Int) < (j:Int):=by omega
      have HJ0:=hid' hj0
      clear hj0
      obtain ⟨ao',c',hv',hx⟩:=HC0.out.1.kept HI.out.kp
      simp only [Value.slice.injEq] at hv'
      obtain ⟨rfl,hnw0,rfl⟩:=hv'
      clear hnw0
      have hnw:n = gs.length:=HLN.out.1
      obtain ⟨b,off,rfl,hb,hcl⟩:=hx (by omega)
      obtain ⟨q0,q1⟩:=hcl j (by omega)
      generalize hy:gs.getD j (0,0) = y at q0 q1
      obtain ⟨y0,y1⟩:=y
      simp only at q0 q1
      have HY:=hid' hy
      have f2:=HI.out.row.cell 2 (.slice (some ⟨b,off,none⟩) n c)
      clear hx hcl hnw hy hb
      go_wp2_with fail
      refine (rtx7_any y0 y1 _).mono ?_
      rintro e w4 ⟨hkt,rfl⟩
      obtain ⟨tv,htv⟩:∃ t,t = bs (tx (y0,y1)):=⟨_,rfl⟩
      rw [<- htv]
      have Htv:=hid' htv
      have HI:=hid' (HI.out.kept hkt)
      clear htv hkt q0 q1 f2
      have KA:=(Kept.refl w4).alloc (.cells #[.string tv] 9)
      go_wp2_with (at_builtin; refine wpList_append_lies _ rfl (.tmp 36) (.tmp 43) 22 rfl (w.heap.size + 1) 9 i0 (.string ByteArray.empty) 1 16 X.und_strs hi hz0 hz1 hz2 rfl (by decide) _ wk.length (strs wk) rfl (by exact (HI.out.kept KA).own) ⟨w4.heap.size,0,none⟩ 1 1 [.string tv] rfl rfl (X.cell_new w4 _ _) (fun u hu => by simp at hu; subst hu; rfl) (by omega) (by have:=HLW.out; unfold maxLen; omega) (by have:=HLW.out; omega) (by have:=HI.out.kp.size; have:=HI.out.row.lt; have:=HI.out.le; have:=HP.out; simp; omega) _ rfl ?_)
      intro g5 cap5 W5 own5 hg5 hgg5 _
      have HI:=hid' (HI.out.add (news:=[tv.data.toList]) KA own5 rfl hg5)
      clear own5 hg5 hgg5 KA
      go_wp2_with fail
      go_roundw
      case rel =>
       refine ⟨j + 1,by omega,by go_num,?_⟩
       rw [mw,HY.out,<- bs_list (tx (y0,y1)),<- Htv.out,if_pos HJ0.out,List.append_nil,<- List.append_assoc,<- HWK.out]
       exact HI.out
      case measure => show n - ((j:Int) + 1).toNat < n - (j:Int).toNat; omega
     ·
      --%D
      have hjp:(0:Int) < (j:Int):=by omega
      have hwr:IntKind.i64.wrap ((j:Int) - 1) = ((j - 1:Nat):Int):=by rw [IntKind.wrap_i64]; omega
      have hil:j - 1 < n2:=by have h1:=HOK.out.2.2.1; have h2:=HLN.out; omega
      have hili:((j - 1:Nat):Int) < (n2:Int):=by omega
      have hil0:(0:Int)<=((j - 1:Nat):Int):=by omega
      obtain ⟨ao2,cc2,hv2,hx2⟩:=HC0.out.2.kept HI.out.kp
      simp only [Value.slice.injEq] at hv2
      obtain ⟨rfl,hn20,rfl⟩:=hv2
      clear hn20
      have hnw2:n2 = vs.length:=HLN.out.2
      obtain ⟨b2,o2,rfl,hb2,hcl2⟩:=hx2 (by omega)
      obtain ⟨r0,r1⟩:=hcl2 (j - 1) (by omega)
      generalize hz:vs.getD (j - 1) (0,0) = z at r0 r1
      obtain ⟨z0,z1⟩:=z
      simp only at r0 r1
      have HZ:=hid' hz
      have HJ0:=hid' hj0
      obtain ⟨jm,hjm⟩:∃ t,t = j - 1:=⟨_,rfl⟩
      rw [<- hjm] at r0 r1 hwr hil hili hil0
      have f2:=HI.out.row.cell 2 (.slice a1 n c)
      have f3:=HI.out.row.cell 3 (.slice (some ⟨b2,o2,none⟩) n2 c2)
      clear hx2 hcl2 hnw2 hz hj0 hjm hb2
      go_wp2_with fail
      refine (rtx7_any z0 z1 _).mono ?_
      rintro e w3 ⟨hkt,rfl⟩
      obtain ⟨tz,htz⟩:∃ t,t = bs (tx (z0,z1)):=⟨_,rfl⟩
      rw [<- htz]
      have Htz:=hid' htz
      have HI:=hid' (HI.out.kept hkt)
      clear htz hkt r0 r1 f2 f3
      have KA:=(Kept.refl w3).alloc (.cells #[.string tz] 9)
      go_wp2_with (at_builtin; refine wpList_append_lies _ rfl (.tmp 26) (.tmp 34) 22 rfl (w.heap.size + 1) 9 i0 (.string ByteArray.empty) 1 16 X.und_strs hi hz0 hz1 hz2 rfl (by decide) _ wk.length (strs wk) rfl (by exact (HI.out.kept KA).own) ⟨w3.heap.size,0,none⟩ 1 1 [.string tz] rfl rfl (X.cell_new w3 _ _) (fun u hu => by simp at hu; subst hu; rfl) (by omega) (by have:=HLW.out; unfold maxLen; omega) (by have:=HLW.out; omega) (by have:=HI.out.kp.size; have:=HI.out.row.lt; have:=HI.out.le; have:=HP.out; simp; omega) _ rfl ?_)
      intro g4 cap4 W4 own4 hg4 hgg _
      have HI:=hid' (HI.out.add (news:=[tz.data.toList]) KA own4 rfl hg4)
      clear own4 hg4 hgg KA
      obtain ⟨wk2,hwk2⟩:∃ l,l = wk ++ [tz.data.toList]:=⟨_,rfl⟩
      have HL2:=hid' (show wk2.length<=101 by rw [hwk2,List.length_append]; have:=HLW.out; simp only [List.length_cons,List.length_nil]; omega)
      have hl2:wk.length + 1 = wk2.length:=by rw [hwk2,List.length_append]; rfl
      rw [<- hwk2] at HI
      rw [hl2] at HI ⊢
      have HWK2:=hid' hwk2
      clear hwk2 hl2 HLW
      have HLW:=HL2
      obtain ⟨ao',c',hv',hx⟩:=HC0.out.1.kept HI.out.kp
      simp only [Value.slice.injEq] at hv'
      obtain ⟨rfl,hnw0,rfl⟩:=hv'
      clear hnw0
      have hnw:n = gs.length:=HLN.out.1
      obtain ⟨b,off,rfl,hb,hcl⟩:=hx (by omega)
      obtain ⟨q0,q1⟩:=hcl j (by omega)
      generalize hy:gs.getD j (0,0) = y at q0 q1
      obtain ⟨y0,y1⟩:=y
      simp only at q0 q1
      have HY:=hid' hy
      have f2:=HI.out.row.cell 2 (.slice (some ⟨b,off,none⟩) n c)
      clear hx hcl hnw hy hb
      go_wp2_with fail
      refine (rtx7_any y0 y1 _).mono ?_
      rintro e w4 ⟨hkt,rfl⟩
      obtain ⟨tv,htv⟩:∃ t,t = bs (tx (y0,y1)):=⟨_,rfl⟩
      rw [<- htv]
      have Htv:=hid' htv
      have HI:=hid' (HI.out.kept hkt)
      clear htv hkt q0 q1 f2
      have KA:=(Kept.refl w4).alloc (.cells #[.string tv] 9)
      go_wp2_with (at_builtin; refine wpList_append_lies _ rfl (.tmp 36) (.tmp 43) 22 rfl (w.heap.size + 1) 9 i0 (.string ByteArray.empty) 1 16 X.und_strs hi hz0 hz1 hz2 rfl (by decide) _ wk2.length (strs wk2) rfl (by exact (HI.out.kept KA).own) ⟨w4.heap.size,0,none⟩ 1 1 [.string tv] rfl rfl (X.cell_new w4 _ _) (fun u hu => by simp at hu; subst hu; rfl) (by omega) (by have:=HLW.out; unfold maxLen; omega) (by have:=HLW.out; omega) (by have:=HI.out.kp.size; have:=HI.out.row.lt; have:=HI.out.le; have:=HP.out; simp; omega) _ rfl ?_)
      intro g5 cap5 W5 own5 hg5 hgg5 _
      have HI:=hid' (HI.out.add (news:=[tv.data.toList]) KA own5 rfl hg5)
      clear own5 hg5 hgg5 KA
      go_wp2_with fail
      go_roundw
      case rel =>
       refine ⟨j + 1,by omega,by go_num,?_⟩
       rw [mw,HY.out,HZ.out,<- bs_list (tx (y0,y1)),<- Htv.out,if_neg HJ0.out,<- bs_list (tx (z0,z1)),<- Htz.out,<- List.append_assoc,<- List.append_assoc,<- HWK.out,<- HWK2.out]
       exact HI.out
      case measure => show n - ((j:Int) + 1).toNat < n - (j:Int).toNat; omega
    ·
     --%E
     have hji:¬ (j:Int) < (n:Int):=by omega
     have hjn:j = n:=by omega
     have HF:=hid' (show Kept w wr/\OwnS w.heap.size wr _ (mwords ⟨s.data.toList,k,gs,vs⟩) from ⟨HI.out.kp,by
      have:=OwnS.mono HI.out.own (Nat.le_succ w.heap.size)
      rw [hjn,HLN.out.1] at this
      exact this⟩)
     clear hjn
     go_wp2_with fail
     go_ret2
     exact ⟨HF.out.1,.inr ⟨HOK.out.1,_,rfl,HF.out.2⟩⟩
end V
end Go.Proofs.YtembglnonhlnkaaGreatDoor
