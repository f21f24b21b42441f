/- shuntref04.line. shuntref04.Says. shuntref04.At. -/
import Derived.Test.YtgofinhnlcbafaaGreatVft
import Derived.Test.YtgofinhnlcbafaaGreatGar
import Derived.Test.YtgofinhnlcbafaaGreatGax
import Derived.Test.YtgofinhnlcbafaaGreatGay
namespace Go.Proofs.YtgofinhnlcbafaaGreat
open Go.RowKit
namespace V
open Q (hid' Row3 Row2 okN)
theorem FT.shape {w:World} {v:Value} {A:Int} {S:Nat} (h:FT w v A S):∃ (s:Bool) (ao:Option Addr) (n c:Nat) (t:Bool) (ap:Option Addr) (n' c':Nat),v = .agg #[.bool s,.slice ao n c,.bool t,.slice ap n' c']:=by
 obtain ⟨N,D,⟨s,ao,n,c,t,ap,n',c',rfl,_⟩,_⟩:=h
 exact ⟨_,_,_,_,_,_,_,_,rfl⟩
theorem FT.put4 {w:World} {v:Value} {A:Int} {S p:Nat} {b b':Bool} {ao ao':Option Addr} {n n' c c':Nat} (h:FT w v A S) (hF:F.FRow w p (.bool b) (.slice ao n c) (.bool b') (.slice ao' n' c')) (y0 y1 y2 y3:Value):FT (F.put4 w p y0 y1 y2 y3) v A S:=by
 obtain ⟨N,D,⟨s,a1,k,d,t,a2,k',d',rfl,n1,n2,l1,l2⟩,r⟩:=h
 exact ⟨N,D,⟨s,a1,k,d,t,a2,k',d',rfl,F.nset4 n1 hF,F.nset4 n2 hF,l1,l2⟩,r⟩
theorem frow_put4 {w:World} {p:Nat} {x0 x1 x2 x3:Value} (h:F.FRow w p x0 x1 x2 x3) (y0 y1 y2 y3:Value):F.FRow (F.put4 w p y0 y1 y2 y3) p y0 y1 y2 y3 :=
 ((World.rowIs.set (World.rowIs.set (World.rowIs.set (World.rowIs.set h 0 y0) 1 y1) 2 y2) 3 y3).congr fun i hi => by
  match i,hi with
  | 0,_ => rfl
  | 1,_ => rfl
  | 2,_ => rfl
  | 3,_ => rfl)
theorem frow_far {w:World} {p q:Nat} {x0 x1 x2 x3:Value} (h:F.FRow w p x0 x1 x2 x3) (hne:¬ p = q) (y0 y1 y2 y3:Value):F.FRow (F.put4 w q y0 y1 y2 y3) p x0 x1 x2 x3 :=
 World.rowIs.setOther (World.rowIs.setOther (World.rowIs.setOther (World.rowIs.setOther h hne y0) hne y1) hne y2) hne y3
theorem FT.whole {w:World} {v:Value} {A:Int} (h:FT w v A 1) (c:Nat):FT w v (A * c) c:=by
 have:=h.scale c
 rwa [Nat.one_mul] at this
set_option maxRecDepth 100000 in
set_option maxHeartbeats 8000000 in
theorem line_any (m x m' x' g L:Int) (w:World) (h:okN m x = true) (h':okN m' x' = true) (hg:0≤g) (hL:g≤L) (hl:1≤L) (hb:L≤1000000000) :
  Calls Tryz.prog 51 #[.agg #[.int .i64 m,.int .i64 x],.agg #[.int .i64 m',.int .i64 x'],.int .i64 g,.int .i64 L] w fun e w' => Kept w w'∧∃ u,e = .returned u∧FT w' u (U m x * (L - g) + U m' x' * g) (10 ^ 18 * L.toNat):=by
 have HO:=hid' (And.intro h (And.intro h' (And.intro hg (And.intro hL (And.intro hl hb)))))
 have HT:Hid ((L.toNat:Int) = L∧0 < L.toNat∧L.toNat≤10 ^ 9):=⟨Int.toNat_of_nonneg (by omega),by omega,by omega⟩
 clear h h' hg hL hl hb
 have HBd:Hid ((U m x * ((L.toNat:Int) - g)).natAbs≤10 ^ 50∧(U m' x' * g).natAbs≤10 ^ 50):=by
  have u1:=u_bd HO.out.1
  have u2:=u_bd HO.out.2.1
  have hh:=HO.out.2.2
  have ht:=HT.out
  constructor
  ·
   rw [Int.natAbs_mul]
   exact Nat.le_trans (Nat.mul_le_mul u1 (show ((L.toNat:Int) - g).natAbs≤10 ^ 9 by omega)) (by decide)
  ·
   rw [Int.natAbs_mul]
   exact Nat.le_trans (Nat.mul_le_mul u2 (show g.natAbs≤10 ^ 9 by omega)) (by decide)
 have HS:Hid (0 < 10 ^ 18 * L.toNat∧10 ^ 18 * L.toNat≤10 ^ 100∧L.toNat≤10 ^ 100):=⟨Nat.mul_pos (by decide) HT.out.2.1,Nat.le_trans (Nat.mul_le_mul_left _ HT.out.2.2) (by decide),Nat.le_trans HT.out.2.2 (by decide)⟩
 go_enter Tryz.func51,Tryz.ntmps51
 go_upto_region 1 with fail
 have hK:=(((Kept.refl w).alloc (.cells #[.int .i64 m,.int .i64 x] 39)).alloc (.cells #[.int .i64 m',.int .i64 x'] 39)).alloc (.cells #[.bool false,.slice none 0 0,.bool false,.slice none 0 0] 53)
 have ra:=(Row2.alloc 39 w (.int .i64 m) (.int .i64 x)).kept (((Kept.refl _).alloc (.cells #[.int .i64 m',.int .i64 x'] 39)).alloc (.cells #[.bool false,.slice none 0 0,.bool false,.slice none 0 0] 53))
 have rb:=(Row2.alloc 39 (w.alloc (.cells #[.int .i64 m,.int .i64 x] 39)) (.int .i64 m') (.int .i64 x')).kept ((Kept.refl _).alloc (.cells #[.bool false,.slice none 0 0,.bool false,.slice none 0 0] 53))
 have rr:=F.FRow.alloc ((w.alloc (.cells #[.int .i64 m,.int .i64 x] 39)).alloc (.cells #[.int .i64 m',.int .i64 x'] 39)) (.bool false) (.slice none 0 0) (.bool false) (.slice none 0 0)
 simp only [World.size_alloc] at rb rr
 generalize ((w.alloc (.cells #[.int .i64 m,.int .i64 x] 39)).alloc (.cells #[.int .i64 m',.int .i64 x'] 39)).alloc (.cells #[.bool false,.slice none 0 0,.bool false,.slice none 0 0] 53) = W at hK ra rb rr ⊢
 obtain ⟨pr,hpr⟩:∃ p,p = w.heap.size + 1 + 1:=⟨_,rfl⟩
 rw [← hpr] at rr ⊢
 obtain ⟨pb,hpb⟩:∃ p,p = w.heap.size + 1:=⟨_,rfl⟩
 rw [← hpb] at rb ⊢
 obtain ⟨pa,hpa⟩:∃ p,p = w.heap.size:=⟨_,rfl⟩
 rw [← hpa] at ra ⊢
 have HV:Hid (∀ V,Kept W V→Row2 39 V pa (.int .i64 m) (.int .i64 x)∧Row2 39 V pb (.int .i64 m') (.int .i64 x')∧F.FRow V pr (.bool false) (.slice none 0 0) (.bool false) (.slice none 0 0)∧Kept w V):=fun V hV => ⟨ra.kept hV,rb.kept hV,rr.kept hV,hK.trans hV⟩
 have HP:Hid (w.heap.size≤pr∧pr < W.heap.size):=⟨by omega,rr.lt⟩
 clear hpa hpb hpr hK ra rb rr
 go_cut [9,10] (fun s9 s10 wc => ∃ (px py:Nat) (s1:Bool) (ao1:Option Addr) (k1 c1:Nat) (t1:Bool) (ap1:Option Addr) (j1 d1:Nat) (s2:Bool) (ao2:Option Addr) (k2 c2:Nat) (t2:Bool) (ap2:Option Addr) (j2 d2:Nat),s9 = .pointer (some ⟨px,0,none⟩)∧s10 = .pointer (some ⟨py,0,none⟩)∧Hid (Kept W wc∧F.FRow wc px (.bool s1) (.slice ao1 k1 c1) (.bool t1) (.slice ap1 j1 d1)∧F.FRow wc py (.bool s2) (.slice ao2 k2 c2) (.bool t2) (.slice ap2 j2 d2)∧FT wc (.agg #[.bool s1,.slice ao1 k1 c1,.bool t1,.slice ap1 j1 d1]) (U m x) (10 ^ 18)∧FT wc (.agg #[.bool s2,.slice ao2 k2 c2,.bool t2,.slice ap2 j2 d2]) (U m' x') (10 ^ 18)∧W.heap.size≤px∧W.heap.size≤py))
 case first =>
  have KT:Kept W W.drew:=(Kept.refl _).drew
  have sS:=hid' (fun (V:World) (K:Kept W V) => And.intro ((HV.out _ K).1.c0) (And.intro ((HV.out _ K).1.c1) (And.intro ((HV.out _ K).2.1.c0) ((HV.out _ K).2.1.c1))))
  refine wp_region_held_drew (S:=fun w' => w'.cell? ⟨pa,0,none⟩ = some (.int .i64 m)∧w'.cell? ⟨pa,1,none⟩ = some (.int .i64 x)∧w'.cell? ⟨pb,0,none⟩ = some (.int .i64 m')∧w'.cell? ⟨pb,1,none⟩ = some (.int .i64 x')) (by kernel_rfl) (sS.out _ KT) (fun hHeld => ?_)
  generalize W.drew = Wd at KT hHeld ⊢
  refine wpAnyH_take (i:=0) (v:=?vlx0x1) rfl (by kernel_rfl) (by kernel_rfl) (by kernel_rfl) (fun _ _ _ h => h) (Or.inl ⟨by rfl,?ylx0x1⟩) hHeld ?rlx0x1
  case ylx0x1 =>
   intro w' hSw
   obtain ⟨hSw0,hSw1,hSw2,hSw3⟩:=hSw
   go_simp
   with_reducible rfl
  case rlx0x1 =>
  refine wpAnyH_take (i:=2) (v:=?vlx2x2) rfl (by kernel_rfl) (by kernel_rfl) (by kernel_rfl) (fun _ _ _ h => h) (Or.inl ⟨by rfl,?ylx2x2⟩) hHeld ?rlx2x2
  case ylx2x2 =>
   intro w' hSw
   obtain ⟨hSw0,hSw1,hSw2,hSw3⟩:=hSw
   go_simp
   with_reducible rfl
  case rlx2x2 =>
  refine wpAnyH_ready (rs:=[1,4,5]) (by kernel_rfl) (by simp) ?_
  refine AllReadyH.cons rfl (fun K hK => ?_) ?_
  ·
   go_simp
   refine (ft_num _ m x HO.out.1).mono ?_
   rintro e w1 ⟨hk1,v1,rfl,f1⟩
   obtain ⟨s1,ao1,k1,c1,t1,ap1,j1,d1,rfl⟩:=f1.shape
   refine hK.out _ _ (sS.out _ (KT.trans hk1)) (fun hHeld => ?_)
   clear hK K
   have KT:=KT.trans hk1
   refine wpAnyH_ready (rs:=[3,4,5]) (by kernel_rfl) (by simp) ?_
   refine AllReadyH.cons rfl (fun K hK => ?_) ?_
   ·
    go_simp
    refine (ft_num _ m' x' HO.out.2.1).mono ?_
    rintro e w2 ⟨hk2,v2,rfl,f2⟩
    obtain ⟨s2,ao2,k2,c2,t2,ap2,j2,d2,rfl⟩:=f2.shape
    refine hK.out _ _ (sS.out _ (KT.trans hk2)) (fun hHeld => ?_)
    clear hK K
    have f1:=FT.kept f1 hk2
    have KT:=KT.trans hk2
    refine wpAnyH_ready (rs:=[4,5]) (by kernel_rfl) (by simp) ?_
    refine AllReadyH.cons rfl (fun K hK => ?_) ?_
    ·
     go_simp
     refine hK.out _ _ (sS.out _ (KT.alloc _)) (fun hHeld => ?_)
     clear hK K
     have zpx:=F.FRow.alloc w2 (.bool false) (.slice none 0 0) (.bool false) (.slice none 0 0)
     have hgpx:W.heap.size≤w2.heap.size:=KT.size
     have f1:=FT.kept f1 ((Kept.refl w2).alloc (.cells #[.bool false,.slice none 0 0,.bool false,.slice none 0 0] 53))
     have f2:=FT.kept f2 ((Kept.refl w2).alloc (.cells #[.bool false,.slice none 0 0,.bool false,.slice none 0 0] 53))
     have KT:=KT.alloc (.cells #[.bool false,.slice none 0 0,.bool false,.slice none 0 0] 53)
     obtain ⟨px,hppx⟩:∃ p,p = w2.heap.size:=⟨_,rfl⟩
     rw [← hppx] at zpx hgpx  ⊢
     generalize w2.alloc (.cells #[.bool false,.slice none 0 0,.bool false,.slice none 0 0] 53) = Wa4 at zpx  f1 f2 KT hHeld ⊢
     clear hppx
     refine wpAnyH_ready (rs:=[5]) (by kernel_rfl) (by simp) ?_
     refine AllReadyH.cons rfl (fun K hK => ?_) AllReadyH.nil
     go_simp
     refine hK.out _ _ (sS.out _ (KT.alloc _)) (fun hHeld => ?_)
     clear hK K
     have zpy:=F.FRow.alloc Wa4 (.bool false) (.slice none 0 0) (.bool false) (.slice none 0 0)
     have hgpy:W.heap.size≤Wa4.heap.size:=KT.size
     have dpypx:¬ (Wa4.heap.size = px):=by have:=zpx.lt; omega
     have dpxpy:¬ (px = Wa4.heap.size):=by have:=zpx.lt; omega
     have zpx:=zpx.kept ((Kept.refl Wa4).alloc (.cells #[.bool false,.slice none 0 0,.bool false,.slice none 0 0] 53))
     have f1:=FT.kept f1 ((Kept.refl Wa4).alloc (.cells #[.bool false,.slice none 0 0,.bool false,.slice none 0 0] 53))
     have f2:=FT.kept f2 ((Kept.refl Wa4).alloc (.cells #[.bool false,.slice none 0 0,.bool false,.slice none 0 0] 53))
     have KT:=KT.alloc (.cells #[.bool false,.slice none 0 0,.bool false,.slice none 0 0] 53)
     obtain ⟨py,hppy⟩:∃ p,p = Wa4.heap.size:=⟨_,rfl⟩
     rw [← hppy] at zpy hgpy dpypx dpxpy ⊢
     generalize Wa4.alloc (.cells #[.bool false,.slice none 0 0,.bool false,.slice none 0 0] 53) = Wa5 at zpy zpx f1 f2 KT hHeld ⊢
     clear hppy
     have c0:=zpx.c0
     have c1:=zpx.c1
     have c2:=zpx.c2
     have c3:=zpx.c3
     have f0:=zpx.fz 0
     have f1:=zpx.fz 1
     have f2:=zpx.fz 2
     have f3:=zpx.fz 3
     refine wpAnyH_ready (rs:=[6]) (by kernel_rfl) (by simp) ?_
     refine AllReadyH.cons rfl (fun K hK => ?_) AllReadyH.nil
     go_simp
     refine hK.out _ _ (sS.out _ (F.Kept.put4 KT hgpx _ _ _ _)) (fun hHeld => ?_)
     clear hK K c0 c1 c2 c3 f0 f1 f2 f3
     have f1:=FT.put4 f1 zpx (.bool s1) (.slice ao1 k1 c1) (.bool t1) (.slice ap1 j1 d1)
     have f2:=FT.put4 f2 zpx (.bool s1) (.slice ao1 k1 c1) (.bool t1) (.slice ap1 j1 d1)
     have zpy:=frow_far zpy (q:=px) dpypx (.bool s1) (.slice ao1 k1 c1) (.bool t1) (.slice ap1 j1 d1)
     have zpx:=frow_put4 zpx (.bool s1) (.slice ao1 k1 c1) (.bool t1) (.slice ap1 j1 d1)
     have KT:=F.Kept.put4 KT hgpx (.bool s1) (.slice ao1 k1 c1) (.bool t1) (.slice ap1 j1 d1)
     unfold F.put4 at f1 f2 KT zpx zpy
     generalize (((Wa5.setCell ⟨px,0,none⟩ (.bool s1)).setCell ⟨px,1,none⟩ (.slice ao1 k1 c1)).setCell ⟨px,2,none⟩ (.bool t1)).setCell ⟨px,3,none⟩ (.slice ap1 j1 d1) = Ws0 at zpx zpy f1 f2 KT hHeld ⊢
     have c0:=zpy.c0
     have c1:=zpy.c1
     have c2:=zpy.c2
     have c3:=zpy.c3
     have f0:=zpy.fz 0
     have f1:=zpy.fz 1
     have f2:=zpy.fz 2
     have f3:=zpy.fz 3
     refine wpAnyH_ready (rs:=[7]) (by kernel_rfl) (by simp) ?_
     refine AllReadyH.cons rfl (fun K hK => ?_) AllReadyH.nil
     go_simp
     refine hK.out _ _ (sS.out _ (F.Kept.put4 KT hgpy _ _ _ _)) (fun hHeld => ?_)
     clear hK K c0 c1 c2 c3 f0 f1 f2 f3
     have f1:=FT.put4 f1 zpy (.bool s2) (.slice ao2 k2 c2) (.bool t2) (.slice ap2 j2 d2)
     have f2:=FT.put4 f2 zpy (.bool s2) (.slice ao2 k2 c2) (.bool t2) (.slice ap2 j2 d2)
     have zpx:=frow_far zpx (q:=py) dpxpy (.bool s2) (.slice ao2 k2 c2) (.bool t2) (.slice ap2 j2 d2)
     have zpy:=frow_put4 zpy (.bool s2) (.slice ao2 k2 c2) (.bool t2) (.slice ap2 j2 d2)
     have KT:=F.Kept.put4 KT hgpy (.bool s2) (.slice ao2 k2 c2) (.bool t2) (.slice ap2 j2 d2)
     unfold F.put4 at f1 f2 KT zpx zpy
     generalize (((Ws0.setCell ⟨py,0,none⟩ (.bool s2)).setCell ⟨py,1,none⟩ (.slice ao2 k2 c2)).setCell ⟨py,2,none⟩ (.bool t2)).setCell ⟨py,3,none⟩ (.slice ap2 j2 d2) = Ws1 at zpx zpy f1 f2 KT hHeld ⊢
     refine wpAnyH_done (by kernel_rfl) ?_ _
     go_wp2_with fail
     go_meet
     case rel => exact ⟨px,py,s1,ao1,k1,c1,t1,ap1,j1,d1,s2,ao2,k2,c2,t2,ap2,j2,d2,rfl,rfl,KT,zpx,zpy,f1,f2,hgpx,hgpy⟩
    refine AllReadyH.cons rfl (fun K hK => ?_) AllReadyH.nil
    go_simp
    refine hK.out _ _ (sS.out _ (KT.alloc _)) (fun hHeld => ?_)
    clear hK K
    have zpy:=F.FRow.alloc w2 (.bool false) (.slice none 0 0) (.bool false) (.slice none 0 0)
    have hgpy:W.heap.size≤w2.heap.size:=KT.size
    have f1:=FT.kept f1 ((Kept.refl w2).alloc (.cells #[.bool false,.slice none 0 0,.bool false,.slice none 0 0] 53))
    have f2:=FT.kept f2 ((Kept.refl w2).alloc (.cells #[.bool false,.slice none 0 0,.bool false,.slice none 0 0] 53))
    have KT:=KT.alloc (.cells #[.bool false,.slice none 0 0,.bool false,.slice none 0 0] 53)
    obtain ⟨py,hppy⟩:∃ p,p = w2.heap.size:=⟨_,rfl⟩
    rw [← hppy] at zpy hgpy  ⊢
    generalize w2.alloc (.cells #[.bool false,.slice none 0 0,.bool false,.slice none 0 0] 53) = Wa5 at zpy  f1 f2 KT hHeld ⊢
    clear hppy
    refine wpAnyH_ready (rs:=[4]) (by kernel_rfl) (by simp) ?_
    refine AllReadyH.cons rfl (fun K hK => ?_) AllReadyH.nil
    go_simp
    refine hK.out _ _ (sS.out _ (KT.alloc _)) (fun hHeld => ?_)
    clear hK K
    have zpx:=F.FRow.alloc Wa5 (.bool false) (.slice none 0 0) (.bool false) (.slice none 0 0)
    have hgpx:W.heap.size≤Wa5.heap.size:=KT.size
    have dpxpy:¬ (Wa5.heap.size = py):=by have:=zpy.lt; omega
    have dpypx:¬ (py = Wa5.heap.size):=by have:=zpy.lt; omega
    have zpy:=zpy.kept ((Kept.refl Wa5).alloc (.cells #[.bool false,.slice none 0 0,.bool false,.slice none 0 0] 53))
    have f1:=FT.kept f1 ((Kept.refl Wa5).alloc (.cells #[.bool false,.slice none 0 0,.bool false,.slice none 0 0] 53))
    have f2:=FT.kept f2 ((Kept.refl Wa5).alloc (.cells #[.bool false,.slice none 0 0,.bool false,.slice none 0 0] 53))
    have KT:=KT.alloc (.cells #[.bool false,.slice none 0 0,.bool false,.slice none 0 0] 53)
    obtain ⟨px,hppx⟩:∃ p,p = Wa5.heap.size:=⟨_,rfl⟩
    rw [← hppx] at zpx hgpx dpxpy dpypx ⊢
    generalize Wa5.alloc (.cells #[.bool false,.slice none 0 0,.bool false,.slice none 0 0] 53) = Wa4 at zpx zpy f1 f2 KT hHeld ⊢
    clear hppx
    have c0:=zpx.c0
    have c1:=zpx.c1
    have c2:=zpx.c2
    have c3:=zpx.c3
    have f0:=zpx.fz 0
    have f1:=zpx.fz 1
    have f2:=zpx.fz 2
    have f3:=zpx.fz 3
    refine wpAnyH_ready (rs:=[6]) (by kernel_rfl) (by simp) ?_
    refine AllReadyH.cons rfl (fun K hK => ?_) AllReadyH.nil
    go_simp
    refine hK.out _ _ (sS.out _ (F.Kept.put4 KT hgpx _ _ _ _)) (fun hHeld => ?_)
    clear hK K c0 c1 c2 c3 f0 f1 f2 f3
    have f1:=FT.put4 f1 zpx (.bool s1) (.slice ao1 k1 c1) (.bool t1) (.slice ap1 j1 d1)
    have f2:=FT.put4 f2 zpx (.bool s1) (.slice ao1 k1 c1) (.bool t1) (.slice ap1 j1 d1)
    have zpy:=frow_far zpy (q:=px) dpypx (.bool s1) (.slice ao1 k1 c1) (.bool t1) (.slice ap1 j1 d1)
    have zpx:=frow_put4 zpx (.bool s1) (.slice ao1 k1 c1) (.bool t1) (.slice ap1 j1 d1)
    have KT:=F.Kept.put4 KT hgpx (.bool s1) (.slice ao1 k1 c1) (.bool t1) (.slice ap1 j1 d1)
    unfold F.put4 at f1 f2 KT zpy zpx
    generalize (((Wa4.setCell ⟨px,0,none⟩ (.bool s1)).setCell ⟨px,1,none⟩ (.slice ao1 k1 c1)).setCell ⟨px,2,none⟩ (.bool t1)).setCell ⟨px,3,none⟩ (.slice ap1 j1 d1) = Ws0 at zpy zpx f1 f2 KT hHeld ⊢
    have c0:=zpy.c0
    have c1:=zpy.c1
    have c2:=zpy.c2
    have c3:=zpy.c3
    have f0:=zpy.fz 0
    have f1:=zpy.fz 1
    have f2:=zpy.fz 2
    have f3:=zpy.fz 3
    refine wpAnyH_ready (rs:=[7]) (by kernel_rfl) (by simp) ?_
    refine AllReadyH.cons rfl (fun K hK => ?_) AllReadyH.nil
    go_simp
    refine hK.out _ _ (sS.out _ (F.Kept.put4 KT hgpy _ _ _ _)) (fun hHeld => ?_)
    clear hK K c0 c1 c2 c3 f0 f1 f2 f3
    have f1:=FT.put4 f1 zpy (.bool s2) (.slice ao2 k2 c2) (.bool t2) (.slice ap2 j2 d2)
    have f2:=FT.put4 f2 zpy (.bool s2) (.slice ao2 k2 c2) (.bool t2) (.slice ap2 j2 d2)
    have zpx:=frow_far zpx (q:=py) dpxpy (.bool s2) (.slice ao2 k2 c2) (.bool t2) (.slice ap2 j2 d2)
    have zpy:=frow_put4 zpy (.bool s2) (.slice ao2 k2 c2) (.bool t2) (.slice ap2 j2 d2)
    have KT:=F.Kept.put4 KT hgpy (.bool s2) (.slice ao2 k2 c2) (.bool t2) (.slice ap2 j2 d2)
    unfold F.put4 at f1 f2 KT zpy zpx
    generalize (((Ws0.setCell ⟨py,0,none⟩ (.bool s2)).setCell ⟨py,1,none⟩ (.slice ao2 k2 c2)).setCell ⟨py,2,none⟩ (.bool t2)).setCell ⟨py,3,none⟩ (.slice ap2 j2 d2) = Ws1 at zpy zpx f1 f2 KT hHeld ⊢
    refine wpAnyH_done (by kernel_rfl) ?_ _
    go_wp2_with fail
    go_meet
    case rel => exact ⟨px,py,s1,ao1,k1,c1,t1,ap1,j1,d1,s2,ao2,k2,c2,t2,ap2,j2,d2,rfl,rfl,KT,zpx,zpy,f1,f2,hgpx,hgpy⟩
   refine AllReadyH.cons rfl (fun K hK => ?_) ?_
   ·
    go_simp
    refine hK.out _ _ (sS.out _ (KT.alloc _)) (fun hHeld => ?_)
    clear hK K
    have zpx:=F.FRow.alloc w1 (.bool false) (.slice none 0 0) (.bool false) (.slice none 0 0)
    have hgpx:W.heap.size≤w1.heap.size:=KT.size
    have f1:=FT.kept f1 ((Kept.refl w1).alloc (.cells #[.bool false,.slice none 0 0,.bool false,.slice none 0 0] 53))
    have KT:=KT.alloc (.cells #[.bool false,.slice none 0 0,.bool false,.slice none 0 0] 53)
    obtain ⟨px,hppx⟩:∃ p,p = w1.heap.size:=⟨_,rfl⟩
    rw [← hppx] at zpx hgpx  ⊢
    generalize w1.alloc (.cells #[.bool false,.slice none 0 0,.bool false,.slice none 0 0] 53) = Wa4 at zpx  f1 KT hHeld ⊢
    clear hppx
    refine wpAnyH_ready (rs:=[3,5]) (by kernel_rfl) (by simp) ?_
    refine AllReadyH.cons rfl (fun K hK => ?_) ?_
    ·
     go_simp
     refine (ft_num _ m' x' HO.out.2.1).mono ?_
     rintro e w2 ⟨hk2,v2,rfl,f2⟩
     obtain ⟨s2,ao2,k2,c2,t2,ap2,j2,d2,rfl⟩:=f2.shape
     refine hK.out _ _ (sS.out _ (KT.trans hk2)) (fun hHeld => ?_)
     clear hK K
     have zpx:=zpx.kept hk2
     have f1:=FT.kept f1 hk2
     have KT:=KT.trans hk2
     refine wpAnyH_ready (rs:=[5]) (by kernel_rfl) (by simp) ?_
     refine AllReadyH.cons rfl (fun K hK => ?_) AllReadyH.nil
     go_simp
     refine hK.out _ _ (sS.out _ (KT.alloc _)) (fun hHeld => ?_)
     clear hK K
     have zpy:=F.FRow.alloc w2 (.bool false) (.slice none 0 0) (.bool false) (.slice none 0 0)
     have hgpy:W.heap.size≤w2.heap.size:=KT.size
     have dpypx:¬ (w2.heap.size = px):=by have:=zpx.lt; omega
     have dpxpy:¬ (px = w2.heap.size):=by have:=zpx.lt; omega
     have zpx:=zpx.kept ((Kept.refl w2).alloc (.cells #[.bool false,.slice none 0 0,.bool false,.slice none 0 0] 53))
     have f1:=FT.kept f1 ((Kept.refl w2).alloc (.cells #[.bool false,.slice none 0 0,.bool false,.slice none 0 0] 53))
     have f2:=FT.kept f2 ((Kept.refl w2).alloc (.cells #[.bool false,.slice none 0 0,.bool false,.slice none 0 0] 53))
     have KT:=KT.alloc (.cells #[.bool false,.slice none 0 0,.bool false,.slice none 0 0] 53)
     obtain ⟨py,hppy⟩:∃ p,p = w2.heap.size:=⟨_,rfl⟩
     rw [← hppy] at zpy hgpy dpypx dpxpy ⊢
     generalize w2.alloc (.cells #[.bool false,.slice none 0 0,.bool false,.slice none 0 0] 53) = Wa5 at zpy zpx f1 f2 KT hHeld ⊢
     clear hppy
     have c0:=zpx.c0
     have c1:=zpx.c1
     have c2:=zpx.c2
     have c3:=zpx.c3
     have f0:=zpx.fz 0
     have f1:=zpx.fz 1
     have f2:=zpx.fz 2
     have f3:=zpx.fz 3
     refine wpAnyH_ready (rs:=[6]) (by kernel_rfl) (by simp) ?_
     refine AllReadyH.cons rfl (fun K hK => ?_) AllReadyH.nil
     go_simp
     refine hK.out _ _ (sS.out _ (F.Kept.put4 KT hgpx _ _ _ _)) (fun hHeld => ?_)
     clear hK K c0 c1 c2 c3 f0 f1 f2 f3
     have f1:=FT.put4 f1 zpx (.bool s1) (.slice ao1 k1 c1) (.bool t1) (.slice ap1 j1 d1)
     have f2:=FT.put4 f2 zpx (.bool s1) (.slice ao1 k1 c1) (.bool t1) (.slice ap1 j1 d1)
     have zpy:=frow_far zpy (q:=px) dpypx (.bool s1) (.slice ao1 k1 c1) (.bool t1) (.slice ap1 j1 d1)
     have zpx:=frow_put4 zpx (.bool s1) (.slice ao1 k1 c1) (.bool t1) (.slice ap1 j1 d1)
     have KT:=F.Kept.put4 KT hgpx (.bool s1) (.slice ao1 k1 c1) (.bool t1) (.slice ap1 j1 d1)
     unfold F.put4 at f1 f2 KT zpx zpy
     generalize (((Wa5.setCell ⟨px,0,none⟩ (.bool s1)).setCell ⟨px,1,none⟩ (.slice ao1 k1 c1)).setCell ⟨px,2,none⟩ (.bool t1)).setCell ⟨px,3,none⟩ (.slice ap1 j1 d1) = Ws0 at zpx zpy f1 f2 KT hHeld ⊢
     have c0:=zpy.c0
     have c1:=zpy.c1
     have c2:=zpy.c2
     have c3:=zpy.c3
     have f0:=zpy.fz 0
     have f1:=zpy.fz 1
     have f2:=zpy.fz 2
     have f3:=zpy.fz 3
     refine wpAnyH_ready (rs:=[7]) (by kernel_rfl) (by simp) ?_
     refine AllReadyH.cons rfl (fun K hK => ?_) AllReadyH.nil
     go_simp
     refine hK.out _ _ (sS.out _ (F.Kept.put4 KT hgpy _ _ _ _)) (fun hHeld => ?_)
     clear hK K c0 c1 c2 c3 f0 f1 f2 f3
     have f1:=FT.put4 f1 zpy (.bool s2) (.slice ao2 k2 c2) (.bool t2) (.slice ap2 j2 d2)
     have f2:=FT.put4 f2 zpy (.bool s2) (.slice ao2 k2 c2) (.bool t2) (.slice ap2 j2 d2)
     have zpx:=frow_far zpx (q:=py) dpxpy (.bool s2) (.slice ao2 k2 c2) (.bool t2) (.slice ap2 j2 d2)
     have zpy:=frow_put4 zpy (.bool s2) (.slice ao2 k2 c2) (.bool t2) (.slice ap2 j2 d2)
     have KT:=F.Kept.put4 KT hgpy (.bool s2) (.slice ao2 k2 c2) (.bool t2) (.slice ap2 j2 d2)
     unfold F.put4 at f1 f2 KT zpx zpy
     generalize (((Ws0.setCell ⟨py,0,none⟩ (.bool s2)).setCell ⟨py,1,none⟩ (.slice ao2 k2 c2)).setCell ⟨py,2,none⟩ (.bool t2)).setCell ⟨py,3,none⟩ (.slice ap2 j2 d2) = Ws1 at zpx zpy f1 f2 KT hHeld ⊢
     refine wpAnyH_done (by kernel_rfl) ?_ _
     go_wp2_with fail
     go_meet
     case rel => exact ⟨px,py,s1,ao1,k1,c1,t1,ap1,j1,d1,s2,ao2,k2,c2,t2,ap2,j2,d2,rfl,rfl,KT,zpx,zpy,f1,f2,hgpx,hgpy⟩
    refine AllReadyH.cons rfl (fun K hK => ?_) AllReadyH.nil
    go_simp
    refine hK.out _ _ (sS.out _ (KT.alloc _)) (fun hHeld => ?_)
    clear hK K
    have zpy:=F.FRow.alloc Wa4 (.bool false) (.slice none 0 0) (.bool false) (.slice none 0 0)
    have hgpy:W.heap.size≤Wa4.heap.size:=KT.size
    have dpypx:¬ (Wa4.heap.size = px):=by have:=zpx.lt; omega
    have dpxpy:¬ (px = Wa4.heap.size):=by have:=zpx.lt; omega
    have zpx:=zpx.kept ((Kept.refl Wa4).alloc (.cells #[.bool false,.slice none 0 0,.bool false,.slice none 0 0] 53))
    have f1:=FT.kept f1 ((Kept.refl Wa4).alloc (.cells #[.bool false,.slice none 0 0,.bool false,.slice none 0 0] 53))
    have KT:=KT.alloc (.cells #[.bool false,.slice none 0 0,.bool false,.slice none 0 0] 53)
    obtain ⟨py,hppy⟩:∃ p,p = Wa4.heap.size:=⟨_,rfl⟩
    rw [← hppy] at zpy hgpy dpypx dpxpy ⊢
    generalize Wa4.alloc (.cells #[.bool false,.slice none 0 0,.bool false,.slice none 0 0] 53) = Wa5 at zpy zpx f1 KT hHeld ⊢
    clear hppy
    refine wpAnyH_ready (rs:=[3]) (by kernel_rfl) (by simp) ?_
    refine AllReadyH.cons rfl (fun K hK => ?_) AllReadyH.nil
    go_simp
    refine (ft_num _ m' x' HO.out.2.1).mono ?_
    rintro e w2 ⟨hk2,v2,rfl,f2⟩
    obtain ⟨s2,ao2,k2,c2,t2,ap2,j2,d2,rfl⟩:=f2.shape
    refine hK.out _ _ (sS.out _ (KT.trans hk2)) (fun hHeld => ?_)
    clear hK K
    have zpx:=zpx.kept hk2
    have zpy:=zpy.kept hk2
    have f1:=FT.kept f1 hk2
    have KT:=KT.trans hk2
    have c0:=zpx.c0
    have c1:=zpx.c1
    have c2:=zpx.c2
    have c3:=zpx.c3
    have f0:=zpx.fz 0
    have f1:=zpx.fz 1
    have f2:=zpx.fz 2
    have f3:=zpx.fz 3
    refine wpAnyH_ready (rs:=[6]) (by kernel_rfl) (by simp) ?_
    refine AllReadyH.cons rfl (fun K hK => ?_) AllReadyH.nil
    go_simp
    refine hK.out _ _ (sS.out _ (F.Kept.put4 KT hgpx _ _ _ _)) (fun hHeld => ?_)
    clear hK K c0 c1 c2 c3 f0 f1 f2 f3
    have f1:=FT.put4 f1 zpx (.bool s1) (.slice ao1 k1 c1) (.bool t1) (.slice ap1 j1 d1)
    have f2:=FT.put4 f2 zpx (.bool s1) (.slice ao1 k1 c1) (.bool t1) (.slice ap1 j1 d1)
    have zpy:=frow_far zpy (q:=px) dpypx (.bool s1) (.slice ao1 k1 c1) (.bool t1) (.slice ap1 j1 d1)
    have zpx:=frow_put4 zpx (.bool s1) (.slice ao1 k1 c1) (.bool t1) (.slice ap1 j1 d1)
    have KT:=F.Kept.put4 KT hgpx (.bool s1) (.slice ao1 k1 c1) (.bool t1) (.slice ap1 j1 d1)
    unfold F.put4 at f1 f2 KT zpx zpy
    generalize (((w2.setCell ⟨px,0,none⟩ (.bool s1)).setCell ⟨px,1,none⟩ (.slice ao1 k1 c1)).setCell ⟨px,2,none⟩ (.bool t1)).setCell ⟨px,3,none⟩ (.slice ap1 j1 d1) = Ws0 at zpx zpy f1 f2 KT hHeld ⊢
    have c0:=zpy.c0
    have c1:=zpy.c1
    have c2:=zpy.c2
    have c3:=zpy.c3
    have f0:=zpy.fz 0
    have f1:=zpy.fz 1
    have f2:=zpy.fz 2
    have f3:=zpy.fz 3
    refine wpAnyH_ready (rs:=[7]) (by kernel_rfl) (by simp) ?_
    refine AllReadyH.cons rfl (fun K hK => ?_) AllReadyH.nil
    go_simp
    refine hK.out _ _ (sS.out _ (F.Kept.put4 KT hgpy _ _ _ _)) (fun hHeld => ?_)
    clear hK K c0 c1 c2 c3 f0 f1 f2 f3
    have f1:=FT.put4 f1 zpy (.bool s2) (.slice ao2 k2 c2) (.bool t2) (.slice ap2 j2 d2)
    have f2:=FT.put4 f2 zpy (.bool s2) (.slice ao2 k2 c2) (.bool t2) (.slice ap2 j2 d2)
    have zpx:=frow_far zpx (q:=py) dpxpy (.bool s2) (.slice ao2 k2 c2) (.bool t2) (.slice ap2 j2 d2)
    have zpy:=frow_put4 zpy (.bool s2) (.slice ao2 k2 c2) (.bool t2) (.slice ap2 j2 d2)
    have KT:=F.Kept.put4 KT hgpy (.bool s2) (.slice ao2 k2 c2) (.bool t2) (.slice ap2 j2 d2)
    unfold F.put4 at f1 f2 KT zpx zpy
    generalize (((Ws0.setCell ⟨py,0,none⟩ (.bool s2)).setCell ⟨py,1,none⟩ (.slice ao2 k2 c2)).setCell ⟨py,2,none⟩ (.bool t2)).setCell ⟨py,3,none⟩ (.slice ap2 j2 d2) = Ws1 at zpx zpy f1 f2 KT hHeld ⊢
    refine wpAnyH_done (by kernel_rfl) ?_ _
    go_wp2_with fail
    go_meet
    case rel => exact ⟨px,py,s1,ao1,k1,c1,t1,ap1,j1,d1,s2,ao2,k2,c2,t2,ap2,j2,d2,rfl,rfl,KT,zpx,zpy,f1,f2,hgpx,hgpy⟩
   refine AllReadyH.cons rfl (fun K hK => ?_) AllReadyH.nil
   go_simp
   refine hK.out _ _ (sS.out _ (KT.alloc _)) (fun hHeld => ?_)
   clear hK K
   have zpy:=F.FRow.alloc w1 (.bool false) (.slice none 0 0) (.bool false) (.slice none 0 0)
   have hgpy:W.heap.size≤w1.heap.size:=KT.size
   have f1:=FT.kept f1 ((Kept.refl w1).alloc (.cells #[.bool false,.slice none 0 0,.bool false,.slice none 0 0] 53))
   have KT:=KT.alloc (.cells #[.bool false,.slice none 0 0,.bool false,.slice none 0 0] 53)
   obtain ⟨py,hppy⟩:∃ p,p = w1.heap.size:=⟨_,rfl⟩
   rw [← hppy] at zpy hgpy  ⊢
   generalize w1.alloc (.cells #[.bool false,.slice none 0 0,.bool false,.slice none 0 0] 53) = Wa5 at zpy  f1 KT hHeld ⊢
   clear hppy
   refine wpAnyH_ready (rs:=[3,4]) (by kernel_rfl) (by simp) ?_
   refine AllReadyH.cons rfl (fun K hK => ?_) ?_
   ·
    go_simp
    refine (ft_num _ m' x' HO.out.2.1).mono ?_
    rintro e w2 ⟨hk2,v2,rfl,f2⟩
    obtain ⟨s2,ao2,k2,c2,t2,ap2,j2,d2,rfl⟩:=f2.shape
    refine hK.out _ _ (sS.out _ (KT.trans hk2)) (fun hHeld => ?_)
    clear hK K
    have zpy:=zpy.kept hk2
    have f1:=FT.kept f1 hk2
    have KT:=KT.trans hk2
    refine wpAnyH_ready (rs:=[4]) (by kernel_rfl) (by simp) ?_
    refine AllReadyH.cons rfl (fun K hK => ?_) AllReadyH.nil
    go_simp
    refine hK.out _ _ (sS.out _ (KT.alloc _)) (fun hHeld => ?_)
    clear hK K
    have zpx:=F.FRow.alloc w2 (.bool false) (.slice none 0 0) (.bool false) (.slice none 0 0)
    have hgpx:W.heap.size≤w2.heap.size:=KT.size
    have dpxpy:¬ (w2.heap.size = py):=by have:=zpy.lt; omega
    have dpypx:¬ (py = w2.heap.size):=by have:=zpy.lt; omega
    have zpy:=zpy.kept ((Kept.refl w2).alloc (.cells #[.bool false,.slice none 0 0,.bool false,.slice none 0 0] 53))
    have f1:=FT.kept f1 ((Kept.refl w2).alloc (.cells #[.bool false,.slice none 0 0,.bool false,.slice none 0 0] 53))
    have f2:=FT.kept f2 ((Kept.refl w2).alloc (.cells #[.bool false,.slice none 0 0,.bool false,.slice none 0 0] 53))
    have KT:=KT.alloc (.cells #[.bool false,.slice none 0 0,.bool false,.slice none 0 0] 53)
    obtain ⟨px,hppx⟩:∃ p,p = w2.heap.size:=⟨_,rfl⟩
    rw [← hppx] at zpx hgpx dpxpy dpypx ⊢
    generalize w2.alloc (.cells #[.bool false,.slice none 0 0,.bool false,.slice none 0 0] 53) = Wa4 at zpx zpy f1 f2 KT hHeld ⊢
    clear hppx
    have c0:=zpx.c0
    have c1:=zpx.c1
    have c2:=zpx.c2
    have c3:=zpx.c3
    have f0:=zpx.fz 0
    have f1:=zpx.fz 1
    have f2:=zpx.fz 2
    have f3:=zpx.fz 3
    refine wpAnyH_ready (rs:=[6]) (by kernel_rfl) (by simp) ?_
    refine AllReadyH.cons rfl (fun K hK => ?_) AllReadyH.nil
    go_simp
    refine hK.out _ _ (sS.out _ (F.Kept.put4 KT hgpx _ _ _ _)) (fun hHeld => ?_)
    clear hK K c0 c1 c2 c3 f0 f1 f2 f3
    have f1:=FT.put4 f1 zpx (.bool s1) (.slice ao1 k1 c1) (.bool t1) (.slice ap1 j1 d1)
    have f2:=FT.put4 f2 zpx (.bool s1) (.slice ao1 k1 c1) (.bool t1) (.slice ap1 j1 d1)
    have zpy:=frow_far zpy (q:=px) dpypx (.bool s1) (.slice ao1 k1 c1) (.bool t1) (.slice ap1 j1 d1)
    have zpx:=frow_put4 zpx (.bool s1) (.slice ao1 k1 c1) (.bool t1) (.slice ap1 j1 d1)
    have KT:=F.Kept.put4 KT hgpx (.bool s1) (.slice ao1 k1 c1) (.bool t1) (.slice ap1 j1 d1)
    unfold F.put4 at f1 f2 KT zpy zpx
    generalize (((Wa4.setCell ⟨px,0,none⟩ (.bool s1)).setCell ⟨px,1,none⟩ (.slice ao1 k1 c1)).setCell ⟨px,2,none⟩ (.bool t1)).setCell ⟨px,3,none⟩ (.slice ap1 j1 d1) = Ws0 at zpy zpx f1 f2 KT hHeld ⊢
    have c0:=zpy.c0
    have c1:=zpy.c1
    have c2:=zpy.c2
    have c3:=zpy.c3
    have f0:=zpy.fz 0
    have f1:=zpy.fz 1
    have f2:=zpy.fz 2
    have f3:=zpy.fz 3
    refine wpAnyH_ready (rs:=[7]) (by kernel_rfl) (by simp) ?_
    refine AllReadyH.cons rfl (fun K hK => ?_) AllReadyH.nil
    go_simp
    refine hK.out _ _ (sS.out _ (F.Kept.put4 KT hgpy _ _ _ _)) (fun hHeld => ?_)
    clear hK K c0 c1 c2 c3 f0 f1 f2 f3
    have f1:=FT.put4 f1 zpy (.bool s2) (.slice ao2 k2 c2) (.bool t2) (.slice ap2 j2 d2)
    have f2:=FT.put4 f2 zpy (.bool s2) (.slice ao2 k2 c2) (.bool t2) (.slice ap2 j2 d2)
    have zpx:=frow_far zpx (q:=py) dpxpy (.bool s2) (.slice ao2 k2 c2) (.bool t2) (.slice ap2 j2 d2)
    have zpy:=frow_put4 zpy (.bool s2) (.slice ao2 k2 c2) (.bool t2) (.slice ap2 j2 d2)
    have KT:=F.Kept.put4 KT hgpy (.bool s2) (.slice ao2 k2 c2) (.bool t2) (.slice ap2 j2 d2)
    unfold F.put4 at f1 f2 KT zpy zpx
    generalize (((Ws0.setCell ⟨py,0,none⟩ (.bool s2)).setCell ⟨py,1,none⟩ (.slice ao2 k2 c2)).setCell ⟨py,2,none⟩ (.bool t2)).setCell ⟨py,3,none⟩ (.slice ap2 j2 d2) = Ws1 at zpy zpx f1 f2 KT hHeld ⊢
    refine wpAnyH_done (by kernel_rfl) ?_ _
    go_wp2_with fail
    go_meet
    case rel => exact ⟨px,py,s1,ao1,k1,c1,t1,ap1,j1,d1,s2,ao2,k2,c2,t2,ap2,j2,d2,rfl,rfl,KT,zpx,zpy,f1,f2,hgpx,hgpy⟩
   refine AllReadyH.cons rfl (fun K hK => ?_) AllReadyH.nil
   go_simp
   refine hK.out _ _ (sS.out _ (KT.alloc _)) (fun hHeld => ?_)
   clear hK K
   have zpx:=F.FRow.alloc Wa5 (.bool false) (.slice none 0 0) (.bool false) (.slice none 0 0)
   have hgpx:W.heap.size≤Wa5.heap.size:=KT.size
   have dpxpy:¬ (Wa5.heap.size = py):=by have:=zpy.lt; omega
   have dpypx:¬ (py = Wa5.heap.size):=by have:=zpy.lt; omega
   have zpy:=zpy.kept ((Kept.refl Wa5).alloc (.cells #[.bool false,.slice none 0 0,.bool false,.slice none 0 0] 53))
   have f1:=FT.kept f1 ((Kept.refl Wa5).alloc (.cells #[.bool false,.slice none 0 0,.bool false,.slice none 0 0] 53))
   have KT:=KT.alloc (.cells #[.bool false,.slice none 0 0,.bool false,.slice none 0 0] 53)
   obtain ⟨px,hppx⟩:∃ p,p = Wa5.heap.size:=⟨_,rfl⟩
   rw [← hppx] at zpx hgpx dpxpy dpypx ⊢
   generalize Wa5.alloc (.cells #[.bool false,.slice none 0 0,.bool false,.slice none 0 0] 53) = Wa4 at zpx zpy f1 KT hHeld ⊢
   clear hppx
   refine wpAnyH_ready (rs:=[3]) (by kernel_rfl) (by simp) ?_
   refine AllReadyH.cons rfl (fun K hK => ?_) AllReadyH.nil
   go_simp
   refine (ft_num _ m' x' HO.out.2.1).mono ?_
   rintro e w2 ⟨hk2,v2,rfl,f2⟩
   obtain ⟨s2,ao2,k2,c2,t2,ap2,j2,d2,rfl⟩:=f2.shape
   refine hK.out _ _ (sS.out _ (KT.trans hk2)) (fun hHeld => ?_)
   clear hK K
   have zpy:=zpy.kept hk2
   have zpx:=zpx.kept hk2
   have f1:=FT.kept f1 hk2
   have KT:=KT.trans hk2
   have c0:=zpx.c0
   have c1:=zpx.c1
   have c2:=zpx.c2
   have c3:=zpx.c3
   have f0:=zpx.fz 0
   have f1:=zpx.fz 1
   have f2:=zpx.fz 2
   have f3:=zpx.fz 3
   refine wpAnyH_ready (rs:=[6]) (by kernel_rfl) (by simp) ?_
   refine AllReadyH.cons rfl (fun K hK => ?_) AllReadyH.nil
   go_simp
   refine hK.out _ _ (sS.out _ (F.Kept.put4 KT hgpx _ _ _ _)) (fun hHeld => ?_)
   clear hK K c0 c1 c2 c3 f0 f1 f2 f3
   have f1:=FT.put4 f1 zpx (.bool s1) (.slice ao1 k1 c1) (.bool t1) (.slice ap1 j1 d1)
   have f2:=FT.put4 f2 zpx (.bool s1) (.slice ao1 k1 c1) (.bool t1) (.slice ap1 j1 d1)
   have zpy:=frow_far zpy (q:=px) dpypx (.bool s1) (.slice ao1 k1 c1) (.bool t1) (.slice ap1 j1 d1)
   have zpx:=frow_put4 zpx (.bool s1) (.slice ao1 k1 c1) (.bool t1) (.slice ap1 j1 d1)
   have KT:=F.Kept.put4 KT hgpx (.bool s1) (.slice ao1 k1 c1) (.bool t1) (.slice ap1 j1 d1)
   unfold F.put4 at f1 f2 KT zpy zpx
   generalize (((w2.setCell ⟨px,0,none⟩ (.bool s1)).setCell ⟨px,1,none⟩ (.slice ao1 k1 c1)).setCell ⟨px,2,none⟩ (.bool t1)).setCell ⟨px,3,none⟩ (.slice ap1 j1 d1) = Ws0 at zpy zpx f1 f2 KT hHeld ⊢
   have c0:=zpy.c0
   have c1:=zpy.c1
   have c2:=zpy.c2
   have c3:=zpy.c3
   have f0:=zpy.fz 0
   have f1:=zpy.fz 1
   have f2:=zpy.fz 2
   have f3:=zpy.fz 3
   refine wpAnyH_ready (rs:=[7]) (by kernel_rfl) (by simp) ?_
   refine AllReadyH.cons rfl (fun K hK => ?_) AllReadyH.nil
   go_simp
   refine hK.out _ _ (sS.out _ (F.Kept.put4 KT hgpy _ _ _ _)) (fun hHeld => ?_)
   clear hK K c0 c1 c2 c3 f0 f1 f2 f3
   have f1:=FT.put4 f1 zpy (.bool s2) (.slice ao2 k2 c2) (.bool t2) (.slice ap2 j2 d2)
   have f2:=FT.put4 f2 zpy (.bool s2) (.slice ao2 k2 c2) (.bool t2) (.slice ap2 j2 d2)
   have zpx:=frow_far zpx (q:=py) dpxpy (.bool s2) (.slice ao2 k2 c2) (.bool t2) (.slice ap2 j2 d2)
   have zpy:=frow_put4 zpy (.bool s2) (.slice ao2 k2 c2) (.bool t2) (.slice ap2 j2 d2)
   have KT:=F.Kept.put4 KT hgpy (.bool s2) (.slice ao2 k2 c2) (.bool t2) (.slice ap2 j2 d2)
   unfold F.put4 at f1 f2 KT zpy zpx
   generalize (((Ws0.setCell ⟨py,0,none⟩ (.bool s2)).setCell ⟨py,1,none⟩ (.slice ao2 k2 c2)).setCell ⟨py,2,none⟩ (.bool t2)).setCell ⟨py,3,none⟩ (.slice ap2 j2 d2) = Ws1 at zpy zpx f1 f2 KT hHeld ⊢
   refine wpAnyH_done (by kernel_rfl) ?_ _
   go_wp2_with fail
   go_meet
   case rel => exact ⟨px,py,s1,ao1,k1,c1,t1,ap1,j1,d1,s2,ao2,k2,c2,t2,ap2,j2,d2,rfl,rfl,KT,zpx,zpy,f1,f2,hgpx,hgpy⟩
  refine AllReadyH.cons rfl (fun K hK => ?_) ?_
  ·
   go_simp
   refine hK.out _ _ (sS.out _ (KT.alloc _)) (fun hHeld => ?_)
   clear hK K
   have zpx:=F.FRow.alloc Wd (.bool false) (.slice none 0 0) (.bool false) (.slice none 0 0)
   have hgpx:W.heap.size≤Wd.heap.size:=KT.size
   have KT:=KT.alloc (.cells #[.bool false,.slice none 0 0,.bool false,.slice none 0 0] 53)
   obtain ⟨px,hppx⟩:∃ p,p = Wd.heap.size:=⟨_,rfl⟩
   rw [← hppx] at zpx hgpx  ⊢
   generalize Wd.alloc (.cells #[.bool false,.slice none 0 0,.bool false,.slice none 0 0] 53) = Wa4 at zpx   KT hHeld ⊢
   clear hppx
   refine wpAnyH_ready (rs:=[1,5]) (by kernel_rfl) (by simp) ?_
   refine AllReadyH.cons rfl (fun K hK => ?_) ?_
   ·
    go_simp
    refine (ft_num _ m x HO.out.1).mono ?_
    rintro e w1 ⟨hk1,v1,rfl,f1⟩
    obtain ⟨s1,ao1,k1,c1,t1,ap1,j1,d1,rfl⟩:=f1.shape
    refine hK.out _ _ (sS.out _ (KT.trans hk1)) (fun hHeld => ?_)
    clear hK K
    have zpx:=zpx.kept hk1
    have KT:=KT.trans hk1
    refine wpAnyH_ready (rs:=[3,5]) (by kernel_rfl) (by simp) ?_
    refine AllReadyH.cons rfl (fun K hK => ?_) ?_
    ·
     go_simp
     refine (ft_num _ m' x' HO.out.2.1).mono ?_
     rintro e w2 ⟨hk2,v2,rfl,f2⟩
     obtain ⟨s2,ao2,k2,c2,t2,ap2,j2,d2,rfl⟩:=f2.shape
     refine hK.out _ _ (sS.out _ (KT.trans hk2)) (fun hHeld => ?_)
     clear hK K
     have zpx:=zpx.kept hk2
     have f1:=FT.kept f1 hk2
     have KT:=KT.trans hk2
     refine wpAnyH_ready (rs:=[5]) (by kernel_rfl) (by simp) ?_
     refine AllReadyH.cons rfl (fun K hK => ?_) AllReadyH.nil
     go_simp
     refine hK.out _ _ (sS.out _ (KT.alloc _)) (fun hHeld => ?_)
     clear hK K
     have zpy:=F.FRow.alloc w2 (.bool false) (.slice none 0 0) (.bool false) (.slice none 0 0)
     have hgpy:W.heap.size≤w2.heap.size:=KT.size
     have dpypx:¬ (w2.heap.size = px):=by have:=zpx.lt; omega
     have dpxpy:¬ (px = w2.heap.size):=by have:=zpx.lt; omega
     have zpx:=zpx.kept ((Kept.refl w2).alloc (.cells #[.bool false,.slice none 0 0,.bool false,.slice none 0 0] 53))
     have f1:=FT.kept f1 ((Kept.refl w2).alloc (.cells #[.bool false,.slice none 0 0,.bool false,.slice none 0 0] 53))
     have f2:=FT.kept f2 ((Kept.refl w2).alloc (.cells #[.bool false,.slice none 0 0,.bool false,.slice none 0 0] 53))
     have KT:=KT.alloc (.cells #[.bool false,.slice none 0 0,.bool false,.slice none 0 0] 53)
     obtain ⟨py,hppy⟩:∃ p,p = w2.heap.size:=⟨_,rfl⟩
     rw [← hppy] at zpy hgpy dpypx dpxpy ⊢
     generalize w2.alloc (.cells #[.bool false,.slice none 0 0,.bool false,.slice none 0 0] 53) = Wa5 at zpy zpx f1 f2 KT hHeld ⊢
     clear hppy
     have c0:=zpx.c0
     have c1:=zpx.c1
     have c2:=zpx.c2
     have c3:=zpx.c3
     have f0:=zpx.fz 0
     have f1:=zpx.fz 1
     have f2:=zpx.fz 2
     have f3:=zpx.fz 3
     refine wpAnyH_ready (rs:=[6]) (by kernel_rfl) (by simp) ?_
     refine AllReadyH.cons rfl (fun K hK => ?_) AllReadyH.nil
     go_simp
     refine hK.out _ _ (sS.out _ (F.Kept.put4 KT hgpx _ _ _ _)) (fun hHeld => ?_)
     clear hK K c0 c1 c2 c3 f0 f1 f2 f3
     have f1:=FT.put4 f1 zpx (.bool s1) (.slice ao1 k1 c1) (.bool t1) (.slice ap1 j1 d1)
     have f2:=FT.put4 f2 zpx (.bool s1) (.slice ao1 k1 c1) (.bool t1) (.slice ap1 j1 d1)
     have zpy:=frow_far zpy (q:=px) dpypx (.bool s1) (.slice ao1 k1 c1) (.bool t1) (.slice ap1 j1 d1)
     have zpx:=frow_put4 zpx (.bool s1) (.slice ao1 k1 c1) (.bool t1) (.slice ap1 j1 d1)
     have KT:=F.Kept.put4 KT hgpx (.bool s1) (.slice ao1 k1 c1) (.bool t1) (.slice ap1 j1 d1)
     unfold F.put4 at f1 f2 KT zpx zpy
     generalize (((Wa5.setCell ⟨px,0,none⟩ (.bool s1)).setCell ⟨px,1,none⟩ (.slice ao1 k1 c1)).setCell ⟨px,2,none⟩ (.bool t1)).setCell ⟨px,3,none⟩ (.slice ap1 j1 d1) = Ws0 at zpx zpy f1 f2 KT hHeld ⊢
     have c0:=zpy.c0
     have c1:=zpy.c1
     have c2:=zpy.c2
     have c3:=zpy.c3
     have f0:=zpy.fz 0
     have f1:=zpy.fz 1
     have f2:=zpy.fz 2
     have f3:=zpy.fz 3
     refine wpAnyH_ready (rs:=[7]) (by kernel_rfl) (by simp) ?_
     refine AllReadyH.cons rfl (fun K hK => ?_) AllReadyH.nil
     go_simp
     refine hK.out _ _ (sS.out _ (F.Kept.put4 KT hgpy _ _ _ _)) (fun hHeld => ?_)
     clear hK K c0 c1 c2 c3 f0 f1 f2 f3
     have f1:=FT.put4 f1 zpy (.bool s2) (.slice ao2 k2 c2) (.bool t2) (.slice ap2 j2 d2)
     have f2:=FT.put4 f2 zpy (.bool s2) (.slice ao2 k2 c2) (.bool t2) (.slice ap2 j2 d2)
     have zpx:=frow_far zpx (q:=py) dpxpy (.bool s2) (.slice ao2 k2 c2) (.bool t2) (.slice ap2 j2 d2)
     have zpy:=frow_put4 zpy (.bool s2) (.slice ao2 k2 c2) (.bool t2) (.slice ap2 j2 d2)
     have KT:=F.Kept.put4 KT hgpy (.bool s2) (.slice ao2 k2 c2) (.bool t2) (.slice ap2 j2 d2)
     unfold F.put4 at f1 f2 KT zpx zpy
     generalize (((Ws0.setCell ⟨py,0,none⟩ (.bool s2)).setCell ⟨py,1,none⟩ (.slice ao2 k2 c2)).setCell ⟨py,2,none⟩ (.bool t2)).setCell ⟨py,3,none⟩ (.slice ap2 j2 d2) = Ws1 at zpx zpy f1 f2 KT hHeld ⊢
     refine wpAnyH_done (by kernel_rfl) ?_ _
     go_wp2_with fail
     go_meet
     case rel => exact ⟨px,py,s1,ao1,k1,c1,t1,ap1,j1,d1,s2,ao2,k2,c2,t2,ap2,j2,d2,rfl,rfl,KT,zpx,zpy,f1,f2,hgpx,hgpy⟩
    refine AllReadyH.cons rfl (fun K hK => ?_) AllReadyH.nil
    go_simp
    refine hK.out _ _ (sS.out _ (KT.alloc _)) (fun hHeld => ?_)
    clear hK K
    have zpy:=F.FRow.alloc w1 (.bool false) (.slice none 0 0) (.bool false) (.slice none 0 0)
    have hgpy:W.heap.size≤w1.heap.size:=KT.size
    have dpypx:¬ (w1.heap.size = px):=by have:=zpx.lt; omega
    have dpxpy:¬ (px = w1.heap.size):=by have:=zpx.lt; omega
    have zpx:=zpx.kept ((Kept.refl w1).alloc (.cells #[.bool false,.slice none 0 0,.bool false,.slice none 0 0] 53))
    have f1:=FT.kept f1 ((Kept.refl w1).alloc (.cells #[.bool false,.slice none 0 0,.bool false,.slice none 0 0] 53))
    have KT:=KT.alloc (.cells #[.bool false,.slice none 0 0,.bool false,.slice none 0 0] 53)
    obtain ⟨py,hppy⟩:∃ p,p = w1.heap.size:=⟨_,rfl⟩
    rw [← hppy] at zpy hgpy dpypx dpxpy ⊢
    generalize w1.alloc (.cells #[.bool false,.slice none 0 0,.bool false,.slice none 0 0] 53) = Wa5 at zpy zpx f1 KT hHeld ⊢
    clear hppy
    refine wpAnyH_ready (rs:=[3]) (by kernel_rfl) (by simp) ?_
    refine AllReadyH.cons rfl (fun K hK => ?_) AllReadyH.nil
    go_simp
    refine (ft_num _ m' x' HO.out.2.1).mono ?_
    rintro e w2 ⟨hk2,v2,rfl,f2⟩
    obtain ⟨s2,ao2,k2,c2,t2,ap2,j2,d2,rfl⟩:=f2.shape
    refine hK.out _ _ (sS.out _ (KT.trans hk2)) (fun hHeld => ?_)
    clear hK K
    have zpx:=zpx.kept hk2
    have zpy:=zpy.kept hk2
    have f1:=FT.kept f1 hk2
    have KT:=KT.trans hk2
    have c0:=zpx.c0
    have c1:=zpx.c1
    have c2:=zpx.c2
    have c3:=zpx.c3
    have f0:=zpx.fz 0
    have f1:=zpx.fz 1
    have f2:=zpx.fz 2
    have f3:=zpx.fz 3
    refine wpAnyH_ready (rs:=[6]) (by kernel_rfl) (by simp) ?_
    refine AllReadyH.cons rfl (fun K hK => ?_) AllReadyH.nil
    go_simp
    refine hK.out _ _ (sS.out _ (F.Kept.put4 KT hgpx _ _ _ _)) (fun hHeld => ?_)
    clear hK K c0 c1 c2 c3 f0 f1 f2 f3
    have f1:=FT.put4 f1 zpx (.bool s1) (.slice ao1 k1 c1) (.bool t1) (.slice ap1 j1 d1)
    have f2:=FT.put4 f2 zpx (.bool s1) (.slice ao1 k1 c1) (.bool t1) (.slice ap1 j1 d1)
    have zpy:=frow_far zpy (q:=px) dpypx (.bool s1) (.slice ao1 k1 c1) (.bool t1) (.slice ap1 j1 d1)
    have zpx:=frow_put4 zpx (.bool s1) (.slice ao1 k1 c1) (.bool t1) (.slice ap1 j1 d1)
    have KT:=F.Kept.put4 KT hgpx (.bool s1) (.slice ao1 k1 c1) (.bool t1) (.slice ap1 j1 d1)
    unfold F.put4 at f1 f2 KT zpx zpy
    generalize (((w2.setCell ⟨px,0,none⟩ (.bool s1)).setCell ⟨px,1,none⟩ (.slice ao1 k1 c1)).setCell ⟨px,2,none⟩ (.bool t1)).setCell ⟨px,3,none⟩ (.slice ap1 j1 d1) = Ws0 at zpx zpy f1 f2 KT hHeld ⊢
    have c0:=zpy.c0
    have c1:=zpy.c1
    have c2:=zpy.c2
    have c3:=zpy.c3
    have f0:=zpy.fz 0
    have f1:=zpy.fz 1
    have f2:=zpy.fz 2
    have f3:=zpy.fz 3
    refine wpAnyH_ready (rs:=[7]) (by kernel_rfl) (by simp) ?_
    refine AllReadyH.cons rfl (fun K hK => ?_) AllReadyH.nil
    go_simp
    refine hK.out _ _ (sS.out _ (F.Kept.put4 KT hgpy _ _ _ _)) (fun hHeld => ?_)
    clear hK K c0 c1 c2 c3 f0 f1 f2 f3
    have f1:=FT.put4 f1 zpy (.bool s2) (.slice ao2 k2 c2) (.bool t2) (.slice ap2 j2 d2)
    have f2:=FT.put4 f2 zpy (.bool s2) (.slice ao2 k2 c2) (.bool t2) (.slice ap2 j2 d2)
    have zpx:=frow_far zpx (q:=py) dpxpy (.bool s2) (.slice ao2 k2 c2) (.bool t2) (.slice ap2 j2 d2)
    have zpy:=frow_put4 zpy (.bool s2) (.slice ao2 k2 c2) (.bool t2) (.slice ap2 j2 d2)
    have KT:=F.Kept.put4 KT hgpy (.bool s2) (.slice ao2 k2 c2) (.bool t2) (.slice ap2 j2 d2)
    unfold F.put4 at f1 f2 KT zpx zpy
    generalize (((Ws0.setCell ⟨py,0,none⟩ (.bool s2)).setCell ⟨py,1,none⟩ (.slice ao2 k2 c2)).setCell ⟨py,2,none⟩ (.bool t2)).setCell ⟨py,3,none⟩ (.slice ap2 j2 d2) = Ws1 at zpx zpy f1 f2 KT hHeld ⊢
    refine wpAnyH_done (by kernel_rfl) ?_ _
    go_wp2_with fail
    go_meet
    case rel => exact ⟨px,py,s1,ao1,k1,c1,t1,ap1,j1,d1,s2,ao2,k2,c2,t2,ap2,j2,d2,rfl,rfl,KT,zpx,zpy,f1,f2,hgpx,hgpy⟩
   refine AllReadyH.cons rfl (fun K hK => ?_) AllReadyH.nil
   go_simp
   refine hK.out _ _ (sS.out _ (KT.alloc _)) (fun hHeld => ?_)
   clear hK K
   have zpy:=F.FRow.alloc Wa4 (.bool false) (.slice none 0 0) (.bool false) (.slice none 0 0)
   have hgpy:W.heap.size≤Wa4.heap.size:=KT.size
   have dpypx:¬ (Wa4.heap.size = px):=by have:=zpx.lt; omega
   have dpxpy:¬ (px = Wa4.heap.size):=by have:=zpx.lt; omega
   have zpx:=zpx.kept ((Kept.refl Wa4).alloc (.cells #[.bool false,.slice none 0 0,.bool false,.slice none 0 0] 53))
   have KT:=KT.alloc (.cells #[.bool false,.slice none 0 0,.bool false,.slice none 0 0] 53)
   obtain ⟨py,hppy⟩:∃ p,p = Wa4.heap.size:=⟨_,rfl⟩
   rw [← hppy] at zpy hgpy dpypx dpxpy ⊢
   generalize Wa4.alloc (.cells #[.bool false,.slice none 0 0,.bool false,.slice none 0 0] 53) = Wa5 at zpy zpx  KT hHeld ⊢
   clear hppy
   refine wpAnyH_ready (rs:=[1]) (by kernel_rfl) (by simp) ?_
   refine AllReadyH.cons rfl (fun K hK => ?_) AllReadyH.nil
   go_simp
   refine (ft_num _ m x HO.out.1).mono ?_
   rintro e w1 ⟨hk1,v1,rfl,f1⟩
   obtain ⟨s1,ao1,k1,c1,t1,ap1,j1,d1,rfl⟩:=f1.shape
   refine hK.out _ _ (sS.out _ (KT.trans hk1)) (fun hHeld => ?_)
   clear hK K
   have zpx:=zpx.kept hk1
   have zpy:=zpy.kept hk1
   have KT:=KT.trans hk1
   refine wpAnyH_ready (rs:=[3]) (by kernel_rfl) (by simp) ?_
   refine AllReadyH.cons rfl (fun K hK => ?_) AllReadyH.nil
   go_simp
   refine (ft_num _ m' x' HO.out.2.1).mono ?_
   rintro e w2 ⟨hk2,v2,rfl,f2⟩
   obtain ⟨s2,ao2,k2,c2,t2,ap2,j2,d2,rfl⟩:=f2.shape
   refine hK.out _ _ (sS.out _ (KT.trans hk2)) (fun hHeld => ?_)
   clear hK K
   have zpx:=zpx.kept hk2
   have zpy:=zpy.kept hk2
   have f1:=FT.kept f1 hk2
   have KT:=KT.trans hk2
   have c0:=zpx.c0
   have c1:=zpx.c1
   have c2:=zpx.c2
   have c3:=zpx.c3
   have f0:=zpx.fz 0
   have f1:=zpx.fz 1
   have f2:=zpx.fz 2
   have f3:=zpx.fz 3
   refine wpAnyH_ready (rs:=[6]) (by kernel_rfl) (by simp) ?_
   refine AllReadyH.cons rfl (fun K hK => ?_) AllReadyH.nil
   go_simp
   refine hK.out _ _ (sS.out _ (F.Kept.put4 KT hgpx _ _ _ _)) (fun hHeld => ?_)
   clear hK K c0 c1 c2 c3 f0 f1 f2 f3
   have f1:=FT.put4 f1 zpx (.bool s1) (.slice ao1 k1 c1) (.bool t1) (.slice ap1 j1 d1)
   have f2:=FT.put4 f2 zpx (.bool s1) (.slice ao1 k1 c1) (.bool t1) (.slice ap1 j1 d1)
   have zpy:=frow_far zpy (q:=px) dpypx (.bool s1) (.slice ao1 k1 c1) (.bool t1) (.slice ap1 j1 d1)
   have zpx:=frow_put4 zpx (.bool s1) (.slice ao1 k1 c1) (.bool t1) (.slice ap1 j1 d1)
   have KT:=F.Kept.put4 KT hgpx (.bool s1) (.slice ao1 k1 c1) (.bool t1) (.slice ap1 j1 d1)
   unfold F.put4 at f1 f2 KT zpx zpy
   generalize (((w2.setCell ⟨px,0,none⟩ (.bool s1)).setCell ⟨px,1,none⟩ (.slice ao1 k1 c1)).setCell ⟨px,2,none⟩ (.bool t1)).setCell ⟨px,3,none⟩ (.slice ap1 j1 d1) = Ws0 at zpx zpy f1 f2 KT hHeld ⊢
   have c0:=zpy.c0
   have c1:=zpy.c1
   have c2:=zpy.c2
   have c3:=zpy.c3
   have f0:=zpy.fz 0
   have f1:=zpy.fz 1
   have f2:=zpy.fz 2
   have f3:=zpy.fz 3
   refine wpAnyH_ready (rs:=[7]) (by kernel_rfl) (by simp) ?_
   refine AllReadyH.cons rfl (fun K hK => ?_) AllReadyH.nil
   go_simp
   refine hK.out _ _ (sS.out _ (F.Kept.put4 KT hgpy _ _ _ _)) (fun hHeld => ?_)
   clear hK K c0 c1 c2 c3 f0 f1 f2 f3
   have f1:=FT.put4 f1 zpy (.bool s2) (.slice ao2 k2 c2) (.bool t2) (.slice ap2 j2 d2)
   have f2:=FT.put4 f2 zpy (.bool s2) (.slice ao2 k2 c2) (.bool t2) (.slice ap2 j2 d2)
   have zpx:=frow_far zpx (q:=py) dpxpy (.bool s2) (.slice ao2 k2 c2) (.bool t2) (.slice ap2 j2 d2)
   have zpy:=frow_put4 zpy (.bool s2) (.slice ao2 k2 c2) (.bool t2) (.slice ap2 j2 d2)
   have KT:=F.Kept.put4 KT hgpy (.bool s2) (.slice ao2 k2 c2) (.bool t2) (.slice ap2 j2 d2)
   unfold F.put4 at f1 f2 KT zpx zpy
   generalize (((Ws0.setCell ⟨py,0,none⟩ (.bool s2)).setCell ⟨py,1,none⟩ (.slice ao2 k2 c2)).setCell ⟨py,2,none⟩ (.bool t2)).setCell ⟨py,3,none⟩ (.slice ap2 j2 d2) = Ws1 at zpx zpy f1 f2 KT hHeld ⊢
   refine wpAnyH_done (by kernel_rfl) ?_ _
   go_wp2_with fail
   go_meet
   case rel => exact ⟨px,py,s1,ao1,k1,c1,t1,ap1,j1,d1,s2,ao2,k2,c2,t2,ap2,j2,d2,rfl,rfl,KT,zpx,zpy,f1,f2,hgpx,hgpy⟩
  refine AllReadyH.cons rfl (fun K hK => ?_) AllReadyH.nil
  go_simp
  refine hK.out _ _ (sS.out _ (KT.alloc _)) (fun hHeld => ?_)
  clear hK K
  have zpy:=F.FRow.alloc Wd (.bool false) (.slice none 0 0) (.bool false) (.slice none 0 0)
  have hgpy:W.heap.size≤Wd.heap.size:=KT.size
  have KT:=KT.alloc (.cells #[.bool false,.slice none 0 0,.bool false,.slice none 0 0] 53)
  obtain ⟨py,hppy⟩:∃ p,p = Wd.heap.size:=⟨_,rfl⟩
  rw [← hppy] at zpy hgpy  ⊢
  generalize Wd.alloc (.cells #[.bool false,.slice none 0 0,.bool false,.slice none 0 0] 53) = Wa5 at zpy   KT hHeld ⊢
  clear hppy
  refine wpAnyH_ready (rs:=[1,4]) (by kernel_rfl) (by simp) ?_
  refine AllReadyH.cons rfl (fun K hK => ?_) ?_
  ·
   go_simp
   refine (ft_num _ m x HO.out.1).mono ?_
   rintro e w1 ⟨hk1,v1,rfl,f1⟩
   obtain ⟨s1,ao1,k1,c1,t1,ap1,j1,d1,rfl⟩:=f1.shape
   refine hK.out _ _ (sS.out _ (KT.trans hk1)) (fun hHeld => ?_)
   clear hK K
   have zpy:=zpy.kept hk1
   have KT:=KT.trans hk1
   refine wpAnyH_ready (rs:=[3,4]) (by kernel_rfl) (by simp) ?_
   refine AllReadyH.cons rfl (fun K hK => ?_) ?_
   ·
    go_simp
    refine (ft_num _ m' x' HO.out.2.1).mono ?_
    rintro e w2 ⟨hk2,v2,rfl,f2⟩
    obtain ⟨s2,ao2,k2,c2,t2,ap2,j2,d2,rfl⟩:=f2.shape
    refine hK.out _ _ (sS.out _ (KT.trans hk2)) (fun hHeld => ?_)
    clear hK K
    have zpy:=zpy.kept hk2
    have f1:=FT.kept f1 hk2
    have KT:=KT.trans hk2
    refine wpAnyH_ready (rs:=[4]) (by kernel_rfl) (by simp) ?_
    refine AllReadyH.cons rfl (fun K hK => ?_) AllReadyH.nil
    go_simp
    refine hK.out _ _ (sS.out _ (KT.alloc _)) (fun hHeld => ?_)
    clear hK K
    have zpx:=F.FRow.alloc w2 (.bool false) (.slice none 0 0) (.bool false) (.slice none 0 0)
    have hgpx:W.heap.size≤w2.heap.size:=KT.size
    have dpxpy:¬ (w2.heap.size = py):=by have:=zpy.lt; omega
    have dpypx:¬ (py = w2.heap.size):=by have:=zpy.lt; omega
    have zpy:=zpy.kept ((Kept.refl w2).alloc (.cells #[.bool false,.slice none 0 0,.bool false,.slice none 0 0] 53))
    have f1:=FT.kept f1 ((Kept.refl w2).alloc (.cells #[.bool false,.slice none 0 0,.bool false,.slice none 0 0] 53))
    have f2:=FT.kept f2 ((Kept.refl w2).alloc (.cells #[.bool false,.slice none 0 0,.bool false,.slice none 0 0] 53))
    have KT:=KT.alloc (.cells #[.bool false,.slice none 0 0,.bool false,.slice none 0 0] 53)
    obtain ⟨px,hppx⟩:∃ p,p = w2.heap.size:=⟨_,rfl⟩
    rw [← hppx] at zpx hgpx dpxpy dpypx ⊢
    generalize w2.alloc (.cells #[.bool false,.slice none 0 0,.bool false,.slice none 0 0] 53) = Wa4 at zpx zpy f1 f2 KT hHeld ⊢
    clear hppx
    have c0:=zpx.c0
    have c1:=zpx.c1
    have c2:=zpx.c2
    have c3:=zpx.c3
    have f0:=zpx.fz 0
    have f1:=zpx.fz 1
    have f2:=zpx.fz 2
    have f3:=zpx.fz 3
    refine wpAnyH_ready (rs:=[6]) (by kernel_rfl) (by simp) ?_
    refine AllReadyH.cons rfl (fun K hK => ?_) AllReadyH.nil
    go_simp
    refine hK.out _ _ (sS.out _ (F.Kept.put4 KT hgpx _ _ _ _)) (fun hHeld => ?_)
    clear hK K c0 c1 c2 c3 f0 f1 f2 f3
    have f1:=FT.put4 f1 zpx (.bool s1) (.slice ao1 k1 c1) (.bool t1) (.slice ap1 j1 d1)
    have f2:=FT.put4 f2 zpx (.bool s1) (.slice ao1 k1 c1) (.bool t1) (.slice ap1 j1 d1)
    have zpy:=frow_far zpy (q:=px) dpypx (.bool s1) (.slice ao1 k1 c1) (.bool t1) (.slice ap1 j1 d1)
    have zpx:=frow_put4 zpx (.bool s1) (.slice ao1 k1 c1) (.bool t1) (.slice ap1 j1 d1)
    have KT:=F.Kept.put4 KT hgpx (.bool s1) (.slice ao1 k1 c1) (.bool t1) (.slice ap1 j1 d1)
    unfold F.put4 at f1 f2 KT zpy zpx
    generalize (((Wa4.setCell ⟨px,0,none⟩ (.bool s1)).setCell ⟨px,1,none⟩ (.slice ao1 k1 c1)).setCell ⟨px,2,none⟩ (.bool t1)).setCell ⟨px,3,none⟩ (.slice ap1 j1 d1) = Ws0 at zpy zpx f1 f2 KT hHeld ⊢
    have c0:=zpy.c0
    have c1:=zpy.c1
    have c2:=zpy.c2
    have c3:=zpy.c3
    have f0:=zpy.fz 0
    have f1:=zpy.fz 1
    have f2:=zpy.fz 2
    have f3:=zpy.fz 3
    refine wpAnyH_ready (rs:=[7]) (by kernel_rfl) (by simp) ?_
    refine AllReadyH.cons rfl (fun K hK => ?_) AllReadyH.nil
    go_simp
    refine hK.out _ _ (sS.out _ (F.Kept.put4 KT hgpy _ _ _ _)) (fun hHeld => ?_)
    clear hK K c0 c1 c2 c3 f0 f1 f2 f3
    have f1:=FT.put4 f1 zpy (.bool s2) (.slice ao2 k2 c2) (.bool t2) (.slice ap2 j2 d2)
    have f2:=FT.put4 f2 zpy (.bool s2) (.slice ao2 k2 c2) (.bool t2) (.slice ap2 j2 d2)
    have zpx:=frow_far zpx (q:=py) dpxpy (.bool s2) (.slice ao2 k2 c2) (.bool t2) (.slice ap2 j2 d2)
    have zpy:=frow_put4 zpy (.bool s2) (.slice ao2 k2 c2) (.bool t2) (.slice ap2 j2 d2)
    have KT:=F.Kept.put4 KT hgpy (.bool s2) (.slice ao2 k2 c2) (.bool t2) (.slice ap2 j2 d2)
    unfold F.put4 at f1 f2 KT zpy zpx
    generalize (((Ws0.setCell ⟨py,0,none⟩ (.bool s2)).setCell ⟨py,1,none⟩ (.slice ao2 k2 c2)).setCell ⟨py,2,none⟩ (.bool t2)).setCell ⟨py,3,none⟩ (.slice ap2 j2 d2) = Ws1 at zpy zpx f1 f2 KT hHeld ⊢
    refine wpAnyH_done (by kernel_rfl) ?_ _
    go_wp2_with fail
    go_meet
    case rel => exact ⟨px,py,s1,ao1,k1,c1,t1,ap1,j1,d1,s2,ao2,k2,c2,t2,ap2,j2,d2,rfl,rfl,KT,zpx,zpy,f1,f2,hgpx,hgpy⟩
   refine AllReadyH.cons rfl (fun K hK => ?_) AllReadyH.nil
   go_simp
   refine hK.out _ _ (sS.out _ (KT.alloc _)) (fun hHeld => ?_)
   clear hK K
   have zpx:=F.FRow.alloc w1 (.bool false) (.slice none 0 0) (.bool false) (.slice none 0 0)
   have hgpx:W.heap.size≤w1.heap.size:=KT.size
   have dpxpy:¬ (w1.heap.size = py):=by have:=zpy.lt; omega
   have dpypx:¬ (py = w1.heap.size):=by have:=zpy.lt; omega
   have zpy:=zpy.kept ((Kept.refl w1).alloc (.cells #[.bool false,.slice none 0 0,.bool false,.slice none 0 0] 53))
   have f1:=FT.kept f1 ((Kept.refl w1).alloc (.cells #[.bool false,.slice none 0 0,.bool false,.slice none 0 0] 53))
   have KT:=KT.alloc (.cells #[.bool false,.slice none 0 0,.bool false,.slice none 0 0] 53)
   obtain ⟨px,hppx⟩:∃ p,p = w1.heap.size:=⟨_,rfl⟩
   rw [← hppx] at zpx hgpx dpxpy dpypx ⊢
   generalize w1.alloc (.cells #[.bool false,.slice none 0 0,.bool false,.slice none 0 0] 53) = Wa4 at zpx zpy f1 KT hHeld ⊢
   clear hppx
   refine wpAnyH_ready (rs:=[3]) (by kernel_rfl) (by simp) ?_
   refine AllReadyH.cons rfl (fun K hK => ?_) AllReadyH.nil
   go_simp
   refine (ft_num _ m' x' HO.out.2.1).mono ?_
   rintro e w2 ⟨hk2,v2,rfl,f2⟩
   obtain ⟨s2,ao2,k2,c2,t2,ap2,j2,d2,rfl⟩:=f2.shape
   refine hK.out _ _ (sS.out _ (KT.trans hk2)) (fun hHeld => ?_)
   clear hK K
   have zpy:=zpy.kept hk2
   have zpx:=zpx.kept hk2
   have f1:=FT.kept f1 hk2
   have KT:=KT.trans hk2
   have c0:=zpx.c0
   have c1:=zpx.c1
   have c2:=zpx.c2
   have c3:=zpx.c3
   have f0:=zpx.fz 0
   have f1:=zpx.fz 1
   have f2:=zpx.fz 2
   have f3:=zpx.fz 3
   refine wpAnyH_ready (rs:=[6]) (by kernel_rfl) (by simp) ?_
   refine AllReadyH.cons rfl (fun K hK => ?_) AllReadyH.nil
   go_simp
   refine hK.out _ _ (sS.out _ (F.Kept.put4 KT hgpx _ _ _ _)) (fun hHeld => ?_)
   clear hK K c0 c1 c2 c3 f0 f1 f2 f3
   have f1:=FT.put4 f1 zpx (.bool s1) (.slice ao1 k1 c1) (.bool t1) (.slice ap1 j1 d1)
   have f2:=FT.put4 f2 zpx (.bool s1) (.slice ao1 k1 c1) (.bool t1) (.slice ap1 j1 d1)
   have zpy:=frow_far zpy (q:=px) dpypx (.bool s1) (.slice ao1 k1 c1) (.bool t1) (.slice ap1 j1 d1)
   have zpx:=frow_put4 zpx (.bool s1) (.slice ao1 k1 c1) (.bool t1) (.slice ap1 j1 d1)
   have KT:=F.Kept.put4 KT hgpx (.bool s1) (.slice ao1 k1 c1) (.bool t1) (.slice ap1 j1 d1)
   unfold F.put4 at f1 f2 KT zpy zpx
   generalize (((w2.setCell ⟨px,0,none⟩ (.bool s1)).setCell ⟨px,1,none⟩ (.slice ao1 k1 c1)).setCell ⟨px,2,none⟩ (.bool t1)).setCell ⟨px,3,none⟩ (.slice ap1 j1 d1) = Ws0 at zpy zpx f1 f2 KT hHeld ⊢
   have c0:=zpy.c0
   have c1:=zpy.c1
   have c2:=zpy.c2
   have c3:=zpy.c3
   have f0:=zpy.fz 0
   have f1:=zpy.fz 1
   have f2:=zpy.fz 2
   have f3:=zpy.fz 3
   refine wpAnyH_ready (rs:=[7]) (by kernel_rfl) (by simp) ?_
   refine AllReadyH.cons rfl (fun K hK => ?_) AllReadyH.nil
   go_simp
   refine hK.out _ _ (sS.out _ (F.Kept.put4 KT hgpy _ _ _ _)) (fun hHeld => ?_)
   clear hK K c0 c1 c2 c3 f0 f1 f2 f3
   have f1:=FT.put4 f1 zpy (.bool s2) (.slice ao2 k2 c2) (.bool t2) (.slice ap2 j2 d2)
   have f2:=FT.put4 f2 zpy (.bool s2) (.slice ao2 k2 c2) (.bool t2) (.slice ap2 j2 d2)
   have zpx:=frow_far zpx (q:=py) dpxpy (.bool s2) (.slice ao2 k2 c2) (.bool t2) (.slice ap2 j2 d2)
   have zpy:=frow_put4 zpy (.bool s2) (.slice ao2 k2 c2) (.bool t2) (.slice ap2 j2 d2)
   have KT:=F.Kept.put4 KT hgpy (.bool s2) (.slice ao2 k2 c2) (.bool t2) (.slice ap2 j2 d2)
   unfold F.put4 at f1 f2 KT zpy zpx
   generalize (((Ws0.setCell ⟨py,0,none⟩ (.bool s2)).setCell ⟨py,1,none⟩ (.slice ao2 k2 c2)).setCell ⟨py,2,none⟩ (.bool t2)).setCell ⟨py,3,none⟩ (.slice ap2 j2 d2) = Ws1 at zpy zpx f1 f2 KT hHeld ⊢
   refine wpAnyH_done (by kernel_rfl) ?_ _
   go_wp2_with fail
   go_meet
   case rel => exact ⟨px,py,s1,ao1,k1,c1,t1,ap1,j1,d1,s2,ao2,k2,c2,t2,ap2,j2,d2,rfl,rfl,KT,zpx,zpy,f1,f2,hgpx,hgpy⟩
  refine AllReadyH.cons rfl (fun K hK => ?_) AllReadyH.nil
  go_simp
  refine hK.out _ _ (sS.out _ (KT.alloc _)) (fun hHeld => ?_)
  clear hK K
  have zpx:=F.FRow.alloc Wa5 (.bool false) (.slice none 0 0) (.bool false) (.slice none 0 0)
  have hgpx:W.heap.size≤Wa5.heap.size:=KT.size
  have dpxpy:¬ (Wa5.heap.size = py):=by have:=zpy.lt; omega
  have dpypx:¬ (py = Wa5.heap.size):=by have:=zpy.lt; omega
  have zpy:=zpy.kept ((Kept.refl Wa5).alloc (.cells #[.bool false,.slice none 0 0,.bool false,.slice none 0 0] 53))
  have KT:=KT.alloc (.cells #[.bool false,.slice none 0 0,.bool false,.slice none 0 0] 53)
  obtain ⟨px,hppx⟩:∃ p,p = Wa5.heap.size:=⟨_,rfl⟩
  rw [← hppx] at zpx hgpx dpxpy dpypx ⊢
  generalize Wa5.alloc (.cells #[.bool false,.slice none 0 0,.bool false,.slice none 0 0] 53) = Wa4 at zpx zpy  KT hHeld ⊢
  clear hppx
  refine wpAnyH_ready (rs:=[1]) (by kernel_rfl) (by simp) ?_
  refine AllReadyH.cons rfl (fun K hK => ?_) AllReadyH.nil
  go_simp
  refine (ft_num _ m x HO.out.1).mono ?_
  rintro e w1 ⟨hk1,v1,rfl,f1⟩
  obtain ⟨s1,ao1,k1,c1,t1,ap1,j1,d1,rfl⟩:=f1.shape
  refine hK.out _ _ (sS.out _ (KT.trans hk1)) (fun hHeld => ?_)
  clear hK K
  have zpy:=zpy.kept hk1
  have zpx:=zpx.kept hk1
  have KT:=KT.trans hk1
  refine wpAnyH_ready (rs:=[3]) (by kernel_rfl) (by simp) ?_
  refine AllReadyH.cons rfl (fun K hK => ?_) AllReadyH.nil
  go_simp
  refine (ft_num _ m' x' HO.out.2.1).mono ?_
  rintro e w2 ⟨hk2,v2,rfl,f2⟩
  obtain ⟨s2,ao2,k2,c2,t2,ap2,j2,d2,rfl⟩:=f2.shape
  refine hK.out _ _ (sS.out _ (KT.trans hk2)) (fun hHeld => ?_)
  clear hK K
  have zpy:=zpy.kept hk2
  have zpx:=zpx.kept hk2
  have f1:=FT.kept f1 hk2
  have KT:=KT.trans hk2
  have c0:=zpx.c0
  have c1:=zpx.c1
  have c2:=zpx.c2
  have c3:=zpx.c3
  have f0:=zpx.fz 0
  have f1:=zpx.fz 1
  have f2:=zpx.fz 2
  have f3:=zpx.fz 3
  refine wpAnyH_ready (rs:=[6]) (by kernel_rfl) (by simp) ?_
  refine AllReadyH.cons rfl (fun K hK => ?_) AllReadyH.nil
  go_simp
  refine hK.out _ _ (sS.out _ (F.Kept.put4 KT hgpx _ _ _ _)) (fun hHeld => ?_)
  clear hK K c0 c1 c2 c3 f0 f1 f2 f3
  have f1:=FT.put4 f1 zpx (.bool s1) (.slice ao1 k1 c1) (.bool t1) (.slice ap1 j1 d1)
  have f2:=FT.put4 f2 zpx (.bool s1) (.slice ao1 k1 c1) (.bool t1) (.slice ap1 j1 d1)
  have zpy:=frow_far zpy (q:=px) dpypx (.bool s1) (.slice ao1 k1 c1) (.bool t1) (.slice ap1 j1 d1)
  have zpx:=frow_put4 zpx (.bool s1) (.slice ao1 k1 c1) (.bool t1) (.slice ap1 j1 d1)
  have KT:=F.Kept.put4 KT hgpx (.bool s1) (.slice ao1 k1 c1) (.bool t1) (.slice ap1 j1 d1)
  unfold F.put4 at f1 f2 KT zpy zpx
  generalize (((w2.setCell ⟨px,0,none⟩ (.bool s1)).setCell ⟨px,1,none⟩ (.slice ao1 k1 c1)).setCell ⟨px,2,none⟩ (.bool t1)).setCell ⟨px,3,none⟩ (.slice ap1 j1 d1) = Ws0 at zpy zpx f1 f2 KT hHeld ⊢
  have c0:=zpy.c0
  have c1:=zpy.c1
  have c2:=zpy.c2
  have c3:=zpy.c3
  have f0:=zpy.fz 0
  have f1:=zpy.fz 1
  have f2:=zpy.fz 2
  have f3:=zpy.fz 3
  refine wpAnyH_ready (rs:=[7]) (by kernel_rfl) (by simp) ?_
  refine AllReadyH.cons rfl (fun K hK => ?_) AllReadyH.nil
  go_simp
  refine hK.out _ _ (sS.out _ (F.Kept.put4 KT hgpy _ _ _ _)) (fun hHeld => ?_)
  clear hK K c0 c1 c2 c3 f0 f1 f2 f3
  have f1:=FT.put4 f1 zpy (.bool s2) (.slice ao2 k2 c2) (.bool t2) (.slice ap2 j2 d2)
  have f2:=FT.put4 f2 zpy (.bool s2) (.slice ao2 k2 c2) (.bool t2) (.slice ap2 j2 d2)
  have zpx:=frow_far zpx (q:=py) dpxpy (.bool s2) (.slice ao2 k2 c2) (.bool t2) (.slice ap2 j2 d2)
  have zpy:=frow_put4 zpy (.bool s2) (.slice ao2 k2 c2) (.bool t2) (.slice ap2 j2 d2)
  have KT:=F.Kept.put4 KT hgpy (.bool s2) (.slice ao2 k2 c2) (.bool t2) (.slice ap2 j2 d2)
  unfold F.put4 at f1 f2 KT zpy zpx
  generalize (((Ws0.setCell ⟨py,0,none⟩ (.bool s2)).setCell ⟨py,1,none⟩ (.slice ao2 k2 c2)).setCell ⟨py,2,none⟩ (.bool t2)).setCell ⟨py,3,none⟩ (.slice ap2 j2 d2) = Ws1 at zpy zpx f1 f2 KT hHeld ⊢
  refine wpAnyH_done (by kernel_rfl) ?_ _
  go_wp2_with fail
  go_meet
  case rel => exact ⟨px,py,s1,ao1,k1,c1,t1,ap1,j1,d1,s2,ao2,k2,c2,t2,ap2,j2,d2,rfl,rfl,KT,zpx,zpy,f1,f2,hgpx,hgpy⟩
 case rest =>
  obtain ⟨px,py,s1,ao1,k1,c1,t1,ap1,j1,d1,s2,ao2,k2,c2,t2,ap2,j2,d2,rfl,rfl,HC⟩:=hcut
  go_wp2_with fail
  refine (ft_int _ g (by have:=HO.out; omega)).mono ?_
  rintro e w3 ⟨hk3,v3,rfl,f3⟩
  obtain ⟨s3,ao3,k3,c3,t3,ap3,j3,d3,rfl⟩:=f3.shape
  have H3:=hid' (And.intro f3 hk3)
  clear f3 hk3
  go_wp2_with fail
  refine (ft_int _ L (by have:=HO.out; omega)).mono ?_
  rintro e w4 ⟨hk4,v4,rfl,f4⟩
  obtain ⟨s4,ao4,k4,c4,t4,ap4,j4,d4,rfl⟩:=f4.shape
  have f4':FT w4 (.agg #[.bool s4,.slice ao4 k4 c4,.bool t4,.slice ap4 j4 d4]) (L.toNat:Int) 1:=by rw [HT.out.1]; exact f4
  have H4:=hid' (And.intro f4' hk4)
  clear f4 f4' hk4
  go_wp2_with fail
  refine (ft_over _ (H3.out.1.kept H4.out.2) H4.out.1 HT.out.2.1 (Nat.le_trans (show g.natAbs≤10 ^ 9 by have:=HO.out; omega) (by decide)) HS.out.2.2).mono ?_
  rintro e w6 ⟨hk6,v6,rfl,f6⟩
  obtain ⟨s6,ao6,k6,c6,t6,ap6,j6,d6,rfl⟩:=f6.shape
  have H6:=hid' (And.intro f6 ((H3.out.2.trans H4.out.2).trans hk6))
  clear f6 hk6
  go_upto_region 3 with fail
  have kp:=(Kept.refl w6).alloc (.cells #[.bool s6,.slice ao6 k6 c6,.bool t6,.slice ap6 j6 d6] 53)
  have rq:=F.FRow.alloc w6 (.bool s6) (.slice ao6 k6 c6) (.bool t6) (.slice ap6 j6 d6)
  generalize w6.alloc (.cells #[.bool s6,.slice ao6 k6 c6,.bool t6,.slice ap6 j6 d6] 53) = W6 at kp rq ⊢
  obtain ⟨pq,hpq⟩:∃ p,p = w6.heap.size:=⟨_,rfl⟩
  rw [← hpq] at rq ⊢
  have HKc:Hid (Kept wc W6):=H6.out.2.trans kp
  have HB:Hid (∀ V,Kept W6 V→F.FRow V px (.bool s1) (.slice ao1 k1 c1) (.bool t1) (.slice ap1 j1 d1)∧F.FRow V py (.bool s2) (.slice ao2 k2 c2) (.bool t2) (.slice ap2 j2 d2)∧F.FRow V pq (.bool s6) (.slice ao6 k6 c6) (.bool t6) (.slice ap6 j6 d6)∧F.FRow V pr (.bool false) (.slice none 0 0) (.bool false) (.slice none 0 0)∧Kept w V):=fun V hV => ⟨HC.out.2.1.kept (HKc.out.trans hV),HC.out.2.2.1.kept (HKc.out.trans hV),rq.kept hV,(HV.out _ (HC.out.1.trans (HKc.out.trans hV))).2.2.1,(HV.out _ (HC.out.1.trans (HKc.out.trans hV))).2.2.2⟩
  have HX:Hid (FT W6 (.agg #[.bool s1,.slice ao1 k1 c1,.bool t1,.slice ap1 j1 d1]) (U m x) (10 ^ 18)∧FT W6 (.agg #[.bool s2,.slice ao2 k2 c2,.bool t2,.slice ap2 j2 d2]) (U m' x') (10 ^ 18)∧FT W6 (.agg #[.bool s6,.slice ao6 k6 c6,.bool t6,.slice ap6 j6 d6]) g L.toNat):=⟨HC.out.2.2.2.1.kept HKc.out,HC.out.2.2.2.2.1.kept HKc.out,H6.out.1.kept kp⟩
  have nrx:¬ pr = px:=by have h1:=HP.out.2; have h2:=HC.out.2.2.2.2.2.1; omega
  have nry:¬ pr = py:=by have h1:=HP.out.2; have h2:=HC.out.2.2.2.2.2.2; omega
  have nrq:¬ pr = pq:=by have h1:=HP.out.2; have h2:=HC.out.1.size; have h3:=H6.out.2.size; omega
  have HSm:Hid ((U m x * ((L.toNat:Int) - g) + U m' x' * g).natAbs≤10 ^ 100):=by
   have h1:=HBd.out.1
   have h2:=HBd.out.2
   have h3:(10:Nat) ^ 50 + 10 ^ 50≤10 ^ 100:=by decide
   show _≤_
   omega
  have KD:Hid (Kept W6 W6.drew):=(Kept.refl W6).drew
  have a0:=(HB.out _ (Kept.refl _)).1.c0
  have a1:=(HB.out _ (Kept.refl _)).1.c1
  have a2:=(HB.out _ (Kept.refl _)).1.c2
  have a3:=(HB.out _ (Kept.refl _)).1.c3
  have a4:=(HB.out _ (Kept.refl _)).2.1.c0
  have a5:=(HB.out _ (Kept.refl _)).2.1.c1
  have a6:=(HB.out _ (Kept.refl _)).2.1.c2
  have a7:=(HB.out _ (Kept.refl _)).2.1.c3
  have a8:=(HB.out _ (Kept.refl _)).2.2.1.c0
  have a9:=(HB.out _ (Kept.refl _)).2.2.1.c1
  have a10:=(HB.out _ (Kept.refl _)).2.2.1.c2
  have a11:=(HB.out _ (Kept.refl _)).2.2.1.c3
  clear kp rq hpq HC HV H3 H4 H6
  go_region_held3 (fun w' => w'.cell? ⟨px,0,none⟩ = some (.bool s1)∧w'.cell? ⟨px,1,none⟩ = some (.slice ao1 k1 c1)∧w'.cell? ⟨px,2,none⟩ = some (.bool t1)∧w'.cell? ⟨px,3,none⟩ = some (.slice ap1 j1 d1)∧w'.cell? ⟨py,0,none⟩ = some (.bool s2)∧w'.cell? ⟨py,1,none⟩ = some (.slice ao2 k2 c2)∧w'.cell? ⟨py,2,none⟩ = some (.bool t2)∧w'.cell? ⟨py,3,none⟩ = some (.slice ap2 j2 d2)∧w'.cell? ⟨pq,0,none⟩ = some (.bool s6)∧w'.cell? ⟨pq,1,none⟩ = some (.slice ao6 k6 c6)∧w'.cell? ⟨pq,2,none⟩ = some (.bool t6)∧w'.cell? ⟨pq,3,none⟩ = some (.slice ap6 j6 d6)) (go_keep) (first
  | (go_at_call 49; refine (ft_int _ 1 (by decide)).mono ?_; rintro e w11 ⟨hk11,v11,rfl,f11⟩; obtain ⟨s11,ao11,k11,c11,t11,ap11,j11,d11,rfl⟩:=f11.shape; have K11:=KD.out.trans hk11; have F11:=hid' f11; clear f11; have g110:=(HB.out _ K11).1.c0; have g111:=(HB.out _ K11).1.c1; have g112:=(HB.out _ K11).1.c2; have g113:=(HB.out _ K11).1.c3; have g114:=(HB.out _ K11).2.1.c0; have g115:=(HB.out _ K11).2.1.c1; have g116:=(HB.out _ K11).2.1.c2; have g117:=(HB.out _ K11).2.1.c3; have g118:=(HB.out _ K11).2.2.1.c0; have g119:=(HB.out _ K11).2.2.1.c1; have g1110:=(HB.out _ K11).2.2.1.c2; have g1111:=(HB.out _ K11).2.2.1.c3)
  | (go_at_call 81; refine (ft_less _ (by have h1:=F11.out.whole L.toNat; rw [Int.one_mul] at h1; exact h1) (HX.out.2.2.kept K11) HT.out.2.1 (Nat.le_trans (show ((L.toNat:Int) - g).natAbs≤10 ^ 9 by have h1:=HO.out; have h2:=HT.out; omega) (by decide)) HS.out.2.2).mono ?_; rintro e w12 ⟨hk12,v12,rfl,f12⟩; obtain ⟨s12,ao12,k12,c12,t12,ap12,j12,d12,rfl⟩:=f12.shape; have K12:=K11.trans hk12; have F12:=hid' f12; clear f12; have g120:=(HB.out _ K12).1.c0; have g121:=(HB.out _ K12).1.c1; have g122:=(HB.out _ K12).1.c2; have g123:=(HB.out _ K12).1.c3; have g124:=(HB.out _ K12).2.1.c0; have g125:=(HB.out _ K12).2.1.c1; have g126:=(HB.out _ K12).2.1.c2; have g127:=(HB.out _ K12).2.1.c3; have g128:=(HB.out _ K12).2.2.1.c0; have g129:=(HB.out _ K12).2.2.1.c1; have g1210:=(HB.out _ K12).2.2.1.c2; have g1211:=(HB.out _ K12).2.2.1.c3)
  | (go_at_call_of 48 (Value.slice ao1 k1 c1); refine (ft_times _ (HX.out.1.kept K12) F12.out (by decide) HT.out.2.1 (Nat.le_trans HBd.out.1 (by decide)) HS.out.2.1).mono ?_; rintro e w13 ⟨hk13,v13,rfl,f13⟩; obtain ⟨s13,ao13,k13,c13,t13,ap13,j13,d13,rfl⟩:=f13.shape; have K13:=K12.trans hk13; have F13:=hid' f13; clear f13; have g130:=(HB.out _ K13).1.c0; have g131:=(HB.out _ K13).1.c1; have g132:=(HB.out _ K13).1.c2; have g133:=(HB.out _ K13).1.c3; have g134:=(HB.out _ K13).2.1.c0; have g135:=(HB.out _ K13).2.1.c1; have g136:=(HB.out _ K13).2.1.c2; have g137:=(HB.out _ K13).2.1.c3; have g138:=(HB.out _ K13).2.2.1.c0; have g139:=(HB.out _ K13).2.2.1.c1; have g1310:=(HB.out _ K13).2.2.1.c2; have g1311:=(HB.out _ K13).2.2.1.c3)
  | (go_at_call_of 48 (Value.slice ao2 k2 c2); refine (ft_times _ (HX.out.2.1.kept K13) (HX.out.2.2.kept K13) (by decide) HT.out.2.1 (Nat.le_trans HBd.out.2 (by decide)) HS.out.2.1).mono ?_; rintro e w14 ⟨hk14,v14,rfl,f14⟩; obtain ⟨s14,ao14,k14,c14,t14,ap14,j14,d14,rfl⟩:=f14.shape; have K14:=K13.trans hk14; have F14:=hid' f14; clear f14; have g140:=(HB.out _ K14).1.c0; have g141:=(HB.out _ K14).1.c1; have g142:=(HB.out _ K14).1.c2; have g143:=(HB.out _ K14).1.c3; have g144:=(HB.out _ K14).2.1.c0; have g145:=(HB.out _ K14).2.1.c1; have g146:=(HB.out _ K14).2.1.c2; have g147:=(HB.out _ K14).2.1.c3; have g148:=(HB.out _ K14).2.2.1.c0; have g149:=(HB.out _ K14).2.2.1.c1; have g1410:=(HB.out _ K14).2.2.1.c2; have g1411:=(HB.out _ K14).2.2.1.c3)
  | (go_at_call 80; refine (ft_plus _ (F13.out.kept hk14) F14.out HS.out.1 HSm.out HS.out.2.1).mono ?_; rintro e w15 ⟨hk15,v15,rfl,f15⟩; obtain ⟨s15,ao15,k15,c15,t15,ap15,j15,d15,rfl⟩:=f15.shape; have K15:=K14.trans hk15; have F15:=hid' f15; clear f15; have g150:=(HB.out _ K15).1.c0; have g151:=(HB.out _ K15).1.c1; have g152:=(HB.out _ K15).1.c2; have g153:=(HB.out _ K15).1.c3; have g154:=(HB.out _ K15).2.1.c0; have g155:=(HB.out _ K15).2.1.c1; have g156:=(HB.out _ K15).2.1.c2; have g157:=(HB.out _ K15).2.1.c3; have g158:=(HB.out _ K15).2.2.1.c0; have g159:=(HB.out _ K15).2.2.1.c1; have g1510:=(HB.out _ K15).2.2.1.c2; have g1511:=(HB.out _ K15).2.2.1.c3; have z:=(HB.out _ K15).2.2.2.1; have z0:=z.c0; have z1:=z.c1; have z2:=z.c2; have z3:=z.c3; have y0:=z.fz 0; have y1:=z.fz 1; have y2:=z.fz 2; have y3:=z.fz 3))
  have HZ:=hid' (And.intro z (HB.out _ K15).2.2.2.2)
  clear HB z K11 K12 K13 K14 K15 hk11 hk12 hk13 hk14 hk15
  go_wp2
  refine bodyPost_ret (v:=(.agg #[.bool s15,.slice ao15 k15 c15,.bool t15,.slice ap15 j15 d15])) (by simp [results,Tryz.results51,go_sem,z0,z1,z2,z3]) rfl ⟨F.Kept.put4 HZ.out.2 HP.out.1 _ _ _ _,_,rfl,?_⟩
  have hf:=FT.put4 F15.out HZ.out.1 (.bool s15) (.slice ao15 k15 c15) (.bool t15) (.slice ap15 j15 d15)
  rw [HT.out.1] at hf
  exact hf
end V
end Go.Proofs.YtgofinhnlcbafaaGreat

namespace Go.Proofs.YtgofinhnlcbafaaGreat
open Go.RowKit
namespace V
open Q (hid' Row3 Row2 okN)
def FSay (w:World) (u:Value) (z:Int):Prop:=∃ (A:Int) (S:Nat),FT w u A S∧0 < S∧S≤10 ^ 50∧A.natAbs≤10 ^ 60∧F.near (A * 1000000000) S = z
theorem say_lev {w:World} {u:Value} {m x:Int} (h:okN m x = true) (f:FT w u (U m x) (10 ^ 18)):FSay w u (lev (m,x)):=by
 refine ⟨_,_,f,by decide,by decide,Nat.le_trans (u_bd h) (by decide),?_⟩
 unfold lev
 refine near_eq (by decide) (by decide) ?_
 show U m x * 1000000000 * ((1000000000:Nat):Int) = U m x * ((10 ^ 18:Nat):Int)
 rw [Int.mul_assoc]
 rfl
theorem say_seg {w:World} {u:Value} {m x m' x' g L:Int} (h:okN m x = true) (h':okN m' x' = true) (hg:0≤g) (hL:g≤L) (hl:1≤L) (hb:L≤1000000000) (f:FT w u (U m x * (L - g) + U m' x' * g) (10 ^ 18 * L.toNat)):FSay w u (seg (m,x) (m',x') g L):=by
 have u1:=u_bd h
 have u2:=u_bd h'
 have b1:(U m x * (L - g)).natAbs≤10 ^ 45:=by rw [Int.natAbs_mul]; exact Nat.le_trans (Nat.mul_le_mul u1 (show (L - g).natAbs≤10 ^ 9 by omega)) (by decide)
 have b2:(U m' x' * g).natAbs≤10 ^ 45:=by rw [Int.natAbs_mul]; exact Nat.le_trans (Nat.mul_le_mul u2 (show g.natAbs≤10 ^ 9 by omega)) (by decide)
 have b3:(10:Nat) ^ 45 + 10 ^ 45≤10 ^ 60:=by decide
 have lt:L.toNat≤10 ^ 9:=by omega
 refine ⟨_,_,f,Nat.mul_pos (by decide) (by omega),Nat.le_trans (Nat.mul_le_mul_left _ lt) (by decide),by omega,?_⟩
 unfold seg
 refine near_eq (Nat.mul_pos (by decide) (by omega)) (Nat.mul_pos (by omega) (by decide)) ?_
 simp only [Int.natCast_mul]
 show (U m x * (L - g) + U m' x' * g) * 1000000000 * ((L.toNat:Int) * ((1000000000:Nat):Int)) = (U m x * (L - g) + U m' x' * g) * (((10 ^ 18:Nat):Int) * (L.toNat:Int))
 generalize U m x * (L - g) + U m' x' * g = A
 rw [show ((10 ^ 18:Nat):Int) = 1000000000 * 1000000000 from rfl,show ((1000000000:Nat):Int) = 1000000000 from rfl]
 simp only [Int.mul_comm,Int.mul_left_comm]
theorem fa_iff {ss:List Int} {t:Int} (hr:riseB ss = true) {i:Nat} (h1:1≤i) (hi:i < ss.length):(ss.getD (i - 1) 0≤t∧t < ss.getD i 0) ↔ fa ss t = i:=by
 constructor
 ·
  rintro ⟨a,b⟩
  refine (fa_one (by omega) (fun j hj => ?_) (fun _ => b)).symm
  by_cases e:j = i - 1
  ·
   subst e; exact a
  ·
   have:=rise_le hr (i:=j) (j:=i - 1) (by omega) (by omega)
   omega
 ·
  rintro rfl
  exact ⟨fa_below (by omega),fa_at hi⟩
set_option maxRecDepth 100000 in
set_option maxHeartbeats 4000000 in
theorem says_any (k:Int) (a1 a2:Option Addr) (n c m c':Nat) (vs:List (Int × Int)) (ss:List Int) (t:Int) (w:World) (h1:NSl w (.slice a1 n c) vs) (h2:ISl w (.slice a2 m c') ss) (ht:0≤t∧t≤1000000000) (ho:okW k vs ss = true) :
  Calls Tryz.prog 27 #[.agg #[.int .i64 k,.slice a1 n c,.slice a2 m c'],.int .i64 t] w fun e w' => Kept w w'∧∃ u,e = .returned u∧FSay w' u (sayW k vs ss t):=by
 obtain ⟨ht0,ht1⟩:=ht
 have HO:=hid' ho
 have hfl:=fits_len (okW_parts ho).1
 have HF:Hid (n = vs.length∧m = ss.length∧1≤n∧n≤16∧m≤16):=by have e1:=h1.len; have e2:=h2.len; exact ⟨e1,e2,by omega,by omega,by omega⟩
 obtain ⟨ao1,cap1,hv1,hx1⟩:=h1
 simp only [Value.slice.injEq] at hv1
 obtain ⟨rfl,hl1,rfl⟩:=hv1
 obtain ⟨b1,o1,rfl,hb1,hc1⟩:=hx1 (by have:=HF.out; omega)
 have HC:Hid (b1 < w.heap.size∧∀ V,Kept w V→∀ j,j < n→V.cell? ⟨b1,o1 + j * 2,none⟩ = some (.int .i64 (vs.getD j (0,0)).1)∧V.cell? ⟨b1,o1 + j * 2 + 1,none⟩ = some (.int .i64 (vs.getD j (0,0)).2)):=⟨hb1,fun V hV j hj => ⟨(Below.cell hV (p:=⟨b1,o1 + j * 2,none⟩) hb1).trans (hc1 j (by omega)).1,(Below.cell hV (p:=⟨b1,o1 + j * 2 + 1,none⟩) hb1).trans (hc1 j (by omega)).2⟩⟩
 have HI:=hid' h2
 clear h2 ho hfl hx1 hc1 hb1 hl1
 go_enter Tryz.func27,Tryz.ntmps27
 go_upto_region 1 with fail
 have hK:=((Kept.refl w).alloc (.cells #[.int .i64 k,.slice (some ⟨b1,o1,none⟩) n c,.slice a2 m c'] 25)).alloc (.cells #[.bool false,.slice none 0 0,.bool false,.slice none 0 0] 53)
 have r1:=(Row3.alloc 25 w (.int .i64 k) (.slice (some ⟨b1,o1,none⟩) n c) (.slice a2 m c')).kept ((Kept.refl _).alloc (.cells #[.bool false,.slice none 0 0,.bool false,.slice none 0 0] 53))
 have r2:=F.FRow.alloc (w.alloc (.cells #[.int .i64 k,.slice (some ⟨b1,o1,none⟩) n c,.slice a2 m c'] 25)) (.bool false) (.slice none 0 0) (.bool false) (.slice none 0 0)
 rw [World.size_alloc] at r2
 generalize (w.alloc (.cells #[.int .i64 k,.slice (some ⟨b1,o1,none⟩) n c,.slice a2 m c'] 25)).alloc (.cells #[.bool false,.slice none 0 0,.bool false,.slice none 0 0] 53) = W at hK r1 r2 ⊢
 obtain ⟨pr,hpr⟩:∃ p,p = w.heap.size + 1:=⟨_,rfl⟩
 rw [← hpr] at r2 ⊢
 obtain ⟨p1,hp1⟩:∃ p,p = w.heap.size:=⟨_,rfl⟩
 rw [← hp1] at r1 ⊢
 have HV:Hid (∀ V,Kept W V→Row3 25 V p1 (.int .i64 k) (.slice (some ⟨b1,o1,none⟩) n c) (.slice a2 m c')∧F.FRow V pr (.bool false) (.slice none 0 0) (.bool false) (.slice none 0 0)∧Kept w V):=fun V hV => ⟨r1.kept hV,r2.kept hV,hK.trans hV⟩
 have HP:Hid (w.heap.size≤pr):=by show _≤_; omega
 have q0:=r1.c0
 have q1:=r1.c1
 have q2:=r1.c2
 have KW:=hid' (Kept.refl W)
 have nrp:¬ pr = p1:=by omega
 have nrb:¬ pr = b1:=by have:=HC.out.1; omega
 clear hpr hp1 hK r1 r2
 by_cases k2:k = 2
 ·
  subst k2
  obtain ⟨lv,ls,hp⟩:=okW_pul HO.out
  obtain rfl:n = 2:=by have:=HF.out; omega
  obtain rfl:m = 5:=by have:=HF.out; omega
  obtain ⟨ao2,cap2,hv2,hx2⟩:=HI.out
  simp only [Value.slice.injEq] at hv2
  obtain ⟨rfl,hl2,rfl⟩:=hv2
  obtain ⟨b2,o2,rfl,hb2,hc2⟩:=hx2 (by omega)
  have HD:Hid (∀ V,Kept w V→∀ j,j < 5→V.cell? ⟨b2,o2 + j,none⟩ = some (.int .i64 (ss.getD j 0))):=fun V hV j hj => (Below.cell hV (p:=⟨b2,o2 + j,none⟩) hb2).trans (hc2 j (by omega))
  have HN:=hid' (And.intro (okN_at HO.out 0 (by omega)) (okN_at HO.out 1 (by omega)))
  have hKw:=(HV.out W KW.out).2.2
  obtain ⟨u0,u1⟩:=HC.out.2 W hKw 0 (by omega)
  obtain ⟨u2,u3⟩:=HC.out.2 W hKw 1 (by omega)
  have v0:=HD.out W hKw 0 (by omega)
  have v1:=HD.out W hKw 1 (by omega)
  have v2:=HD.out W hKw 2 (by omega)
  have v3:=HD.out W hKw 3 (by omega)
  have v4:=HD.out W hKw 4 (by omega)
  simp only [Nat.zero_mul,Nat.one_mul,Nat.add_zero] at u0 u1 u2 u3 v0
  have HE:Hid (sayW 2 vs ss t = sayP (vs.getD 0 (0,0)) (vs.getD 1 (0,0)) (ss.getD 0 0) (ss.getD 1 0) (ss.getD 2 0) (ss.getD 3 0) (ss.getD 4 0) t):=by show _ = _; unfold sayW; rw [if_pos rfl]
  have HPu:=hid' hp
  clear hx2 hc2 hb2 hl2 lv ls hp hKw HD
  obtain ⟨yy,hyy⟩:∃ y,vs.getD 0 (0,0) = y:=⟨_,rfl⟩
  obtain ⟨zz,hzz⟩:∃ y,vs.getD 1 (0,0) = y:=⟨_,rfl⟩
  rw [hyy] at u0 u1 HN HE
  rw [hzz] at u2 u3 HN HE
  obtain ⟨x0,x1⟩:=yy
  obtain ⟨x2,x3⟩:=zz
  have HEQ:=hid' (And.intro hyy hzz)
  clear hyy hzz
  dsimp only at u0 u1 u2 u3 HN
  generalize ss.getD 0 0 = d at *
  generalize ss.getD 1 0 = r at *
  generalize ss.getD 2 0 = b at *
  generalize ss.getD 3 0 = f at *
  generalize ss.getD 4 0 = P at *
  have d0:=HPu.out.d0
  have d1:=HPu.out.d1
  have e1:IntKind.i64.wrap (t - d) = t - d:=by rw [IntKind.wrap_i64]; omega
  by_cases htd:t < d
  ·
   have htd':t - d < 0:=by omega
   have HQ:Hid (sayW 2 vs ss t = lev (x0,x1)):=by show _ = _; rw [HE.out]; unfold sayP; rw [if_pos htd]
   go_wp2_with fail
   refine (ft_num _ x0 x1 HN.out.1).mono ?_
   rintro e w1 ⟨hk,u,rfl,f⟩
   have KK:=KW.out.trans hk
   obtain ⟨sx,ax,kx,cx,tx,ay,ky,cy,rfl⟩:=f.shape
   have z:=(HV.out _ KK).2.1
   have HZ:=hid' (And.intro z (And.intro (HV.out _ KK).2.2 f))
   have z0:=z.c0
   have z1:=z.c1
   have z2:=z.c2
   have z3:=z.c3
   have y0:=z.fz 0
   have y1:=z.fz 1
   have y2:=z.fz 2
   have y3:=z.fz 3
   clear z f  hk
   go_wp2_with fail
   exact bodyPost_ret (v:=.agg #[.bool sx,.slice ax kx cx,.bool tx,.slice ay ky cy]) (by simp [results,Tryz.results27,go_sem,z0,z1,z2,z3]) rfl ⟨F.Kept.put4 HZ.out.2.1 HP.out _ _ _ _,_,rfl,by rw [HQ.out]; exact say_lev HN.out.1 (FT.put4 HZ.out.2.2 HZ.out.1 (.bool sx) (.slice ax kx cx) (.bool tx) (.slice ay ky cy))⟩
  ·
   have htd':¬ t - d < 0:=by omega
   have htd2:0≤t - d:=by omega
   have hP:=HPu.out.p0
   have hP1:=HPu.out.p1
   have e2:¬ P = 0:=by omega
   have e3:(P == 0) = false:=by simpa using e2
   have hu0:0≤(t - d) % P:=Int.emod_nonneg _ (by omega)
   have hu1:(t - d) % P < P:=Int.emod_lt_of_pos _ (by omega)
   have HQ:Hid (sayW 2 vs ss t = if (t - d) % P < r then seg (x0,x1) (x2,x3) ((t - d) % P) r else if (t - d) % P < r + b then lev (x2,x3) else if (t - d) % P < r + b + f then seg (x2,x3) (x0,x1) ((t - d) % P - (r + b)) f else lev (x0,x1)):=by show _ = _; rw [HE.out]; unfold sayP; rw [if_neg htd]
   have e4:Int.tmod (t - d) P = (t - d) % P:=by rw [Int.tmod_eq_emod_of_nonneg htd2]
   obtain ⟨u,hu⟩:∃ u,u = (t - d) % P:=⟨_,rfl⟩
   rw [← hu] at hu0 hu1 HQ e4
   have hu':=hu.symm
   clear hu
   have e5:IntKind.i64.wrap u = u:=by rw [IntKind.wrap_i64]; omega
   have r0:=HPu.out.r0
   have b0:=HPu.out.b0
   have f0:=HPu.out.f0
   have hs:=HPu.out.s
   have e6:IntKind.i64.wrap (r + b) = r + b:=by rw [IntKind.wrap_i64]; omega
   have e7:IntKind.i64.wrap (r + b + f) = r + b + f:=by rw [IntKind.wrap_i64]; omega
   have e8:IntKind.i64.wrap (u - (r + b)) = u - (r + b):=by rw [IntKind.wrap_i64]; omega
   have e9:IntKind.i64.wrap (r + b + f - (r + b)) = f:=by rw [IntKind.wrap_i64]; omega
   go_wp2_with fail
   go_quiet (fail)
   have KQ:Hid (∀ n,Kept W (W.drewN n)):=fun n => (Kept.refl W).drewN n
   by_cases h1:u < r
   ·
    rw [if_pos h1] at HQ
    go_wp2_with fail
    obtain ⟨W8,hW8⟩:∃ V,V = W.drewN nq:=⟨_,rfl⟩
    have K8:Hid (Kept W W8):=by rw [hW8]; exact KQ.out _
    rw [← hW8]
    have q1':=(HV.out _ K8.out).1.c1
    have w0:W8.cell? ⟨b1,o1,none⟩ = some (.int .i64 x0):=by rw [hW8]; exact u0
    have w1:W8.cell? ⟨b1,o1 + 1,none⟩ = some (.int .i64 x1):=by rw [hW8]; exact u1
    have w2:W8.cell? ⟨b1,o1 + 2,none⟩ = some (.int .i64 x2):=by rw [hW8]; exact u2
    have w3:W8.cell? ⟨b1,o1 + 2 + 1,none⟩ = some (.int .i64 x3):=by rw [hW8]; exact u3
    clear hW8 q0 q1 q2 u0 u1 u2 u3 v0 v1 v2 v3 v4 e1 e2 e3 e4 e5 e6 e7 hu'
    go_region_held3 (fun w' => w'.cell? ⟨p1,1,none⟩ = some (.slice (some ⟨b1,o1,none⟩) 2 c)∧w'.cell? ⟨b1,o1,none⟩ = some (.int .i64 x0)∧w'.cell? ⟨b1,o1 + 1,none⟩ = some (.int .i64 x1)∧w'.cell? ⟨b1,o1 + 2,none⟩ = some (.int .i64 x2)∧w'.cell? ⟨b1,o1 + 2 + 1,none⟩ = some (.int .i64 x3)) (go_keep) (first
     | (go_at_call 51; refine (line_any x0 x1 x2 x3 (u) (r) _ HN.out.1 HN.out.2 hu0 (by omega) (by omega) (by omega)).mono ?_; rintro e w9 ⟨hk9,u9,rfl,f9⟩; obtain ⟨sx,ax,kx,cx,tx,ay,ky,cy,rfl⟩:=f9.shape; have K9:=K8.out.trans ((Kept.refl W8).drew.trans hk9); have z:=(HV.out _ K9).2.1; have HZ:=hid' (And.intro z (And.intro (HV.out _ K9).2.2 f9)); have z0:=z.c0; have z1:=z.c1; have z2:=z.c2; have z3:=z.c3; have y0:=z.fz 0; have y1:=z.fz 1; have y2:=z.fz 2; have y3:=z.fz 3; clear f9; have d1:=(HV.out _ K9).1.c1; obtain ⟨d2,d3⟩:=HC.out.2 _ (HV.out _ K9).2.2 0 (by decide); obtain ⟨d4,d5⟩:=HC.out.2 _ (HV.out _ K9).2.2 1 (by decide); rw [HEQ.out.1] at d2 d3; rw [HEQ.out.2] at d4 d5; simp only [Nat.zero_mul,Nat.one_mul,Nat.add_zero] at d2 d3 d4 d5))
    clear z K9 hk9
    go_wp2
    exact bodyPost_ret (v:=.agg #[.bool sx,.slice ax kx cx,.bool tx,.slice ay ky cy]) (by simp [results,Tryz.results27,go_sem,z0,z1,z2,z3]) rfl ⟨F.Kept.put4 HZ.out.2.1 HP.out _ _ _ _,_,rfl,by rw [HQ.out]; exact say_seg HN.out.1 HN.out.2 hu0 (by omega) (by omega) (by omega) (FT.put4 HZ.out.2.2 HZ.out.1 (.bool sx) (.slice ax kx cx) (.bool tx) (.slice ay ky cy))⟩
   rw [if_neg h1] at HQ
   by_cases h2:u < r + b
   ·
    rw [if_pos h2] at HQ
    go_wp2_with fail
    refine (ft_num _ x2 x3 HN.out.2).mono ?_
    rintro e w1 ⟨hk,u,rfl,f⟩
    have KK:=(KQ.out _).trans hk
    obtain ⟨sx,ax,kx,cx,tx,ay,ky,cy,rfl⟩:=f.shape
    have z:=(HV.out _ KK).2.1
    have HZ:=hid' (And.intro z (And.intro (HV.out _ KK).2.2 f))
    have z0:=z.c0
    have z1:=z.c1
    have z2:=z.c2
    have z3:=z.c3
    have y0:=z.fz 0
    have y1:=z.fz 1
    have y2:=z.fz 2
    have y3:=z.fz 3
    clear z f  hk
    go_wp2_with fail
    exact bodyPost_ret (v:=.agg #[.bool sx,.slice ax kx cx,.bool tx,.slice ay ky cy]) (by simp [results,Tryz.results27,go_sem,z0,z1,z2,z3]) rfl ⟨F.Kept.put4 HZ.out.2.1 HP.out _ _ _ _,_,rfl,by rw [HQ.out]; exact say_lev HN.out.2 (FT.put4 HZ.out.2.2 HZ.out.1 (.bool sx) (.slice ax kx cx) (.bool tx) (.slice ay ky cy))⟩
   rw [if_neg h2] at HQ
   by_cases h3:u < r + b + f
   ·
    rw [if_pos h3] at HQ
    go_wp2_with fail
    obtain ⟨W8,hW8⟩:∃ V,V = W.drewN nq:=⟨_,rfl⟩
    have K8:Hid (Kept W W8):=by rw [hW8]; exact KQ.out _
    rw [← hW8]
    have q1':=(HV.out _ K8.out).1.c1
    have w0:W8.cell? ⟨b1,o1,none⟩ = some (.int .i64 x0):=by rw [hW8]; exact u0
    have w1:W8.cell? ⟨b1,o1 + 1,none⟩ = some (.int .i64 x1):=by rw [hW8]; exact u1
    have w2:W8.cell? ⟨b1,o1 + 2,none⟩ = some (.int .i64 x2):=by rw [hW8]; exact u2
    have w3:W8.cell? ⟨b1,o1 + 2 + 1,none⟩ = some (.int .i64 x3):=by rw [hW8]; exact u3
    clear hW8 q0 q1 q2 u0 u1 u2 u3 v0 v1 v2 v3 v4 e1 e2 e3 e4 e5 e6 e7 hu'
    go_region_held3 (fun w' => w'.cell? ⟨p1,1,none⟩ = some (.slice (some ⟨b1,o1,none⟩) 2 c)∧w'.cell? ⟨b1,o1,none⟩ = some (.int .i64 x0)∧w'.cell? ⟨b1,o1 + 1,none⟩ = some (.int .i64 x1)∧w'.cell? ⟨b1,o1 + 2,none⟩ = some (.int .i64 x2)∧w'.cell? ⟨b1,o1 + 2 + 1,none⟩ = some (.int .i64 x3)) (go_keep) (first
     | (go_at_call 51; refine (line_any x2 x3 x0 x1 (u - (r + b)) (f) _ HN.out.2 HN.out.1 (by omega) (by omega) (by omega) (by omega)).mono ?_; rintro e w9 ⟨hk9,u9,rfl,f9⟩; obtain ⟨sx,ax,kx,cx,tx,ay,ky,cy,rfl⟩:=f9.shape; have K9:=K8.out.trans ((Kept.refl W8).drew.trans hk9); have z:=(HV.out _ K9).2.1; have HZ:=hid' (And.intro z (And.intro (HV.out _ K9).2.2 f9)); have z0:=z.c0; have z1:=z.c1; have z2:=z.c2; have z3:=z.c3; have y0:=z.fz 0; have y1:=z.fz 1; have y2:=z.fz 2; have y3:=z.fz 3; clear f9; have d1:=(HV.out _ K9).1.c1; obtain ⟨d2,d3⟩:=HC.out.2 _ (HV.out _ K9).2.2 0 (by decide); obtain ⟨d4,d5⟩:=HC.out.2 _ (HV.out _ K9).2.2 1 (by decide); rw [HEQ.out.1] at d2 d3; rw [HEQ.out.2] at d4 d5; simp only [Nat.zero_mul,Nat.one_mul,Nat.add_zero] at d2 d3 d4 d5))
    clear z K9 hk9
    go_wp2
    exact bodyPost_ret (v:=.agg #[.bool sx,.slice ax kx cx,.bool tx,.slice ay ky cy]) (by simp [results,Tryz.results27,go_sem,z0,z1,z2,z3]) rfl ⟨F.Kept.put4 HZ.out.2.1 HP.out _ _ _ _,_,rfl,by rw [HQ.out]; exact say_seg HN.out.2 HN.out.1 (by omega) (by omega) (by omega) (by omega) (FT.put4 HZ.out.2.2 HZ.out.1 (.bool sx) (.slice ax kx cx) (.bool tx) (.slice ay ky cy))⟩
   ·
    rw [if_neg h3] at HQ
    go_wp2_with fail
    refine (ft_num _ x0 x1 HN.out.1).mono ?_
    rintro e w1 ⟨hk,u,rfl,f⟩
    have KK:=(KQ.out _).trans hk
    obtain ⟨sx,ax,kx,cx,tx,ay,ky,cy,rfl⟩:=f.shape
    have z:=(HV.out _ KK).2.1
    have HZ:=hid' (And.intro z (And.intro (HV.out _ KK).2.2 f))
    have z0:=z.c0
    have z1:=z.c1
    have z2:=z.c2
    have z3:=z.c3
    have y0:=z.fz 0
    have y1:=z.fz 1
    have y2:=z.fz 2
    have y3:=z.fz 3
    clear z f  hk
    go_wp2_with fail
    exact bodyPost_ret (v:=.agg #[.bool sx,.slice ax kx cx,.bool tx,.slice ay ky cy]) (by simp [results,Tryz.results27,go_sem,z0,z1,z2,z3]) rfl ⟨F.Kept.put4 HZ.out.2.1 HP.out _ _ _ _,_,rfl,by rw [HQ.out]; exact say_lev HN.out.1 (FT.put4 HZ.out.2.2 HZ.out.1 (.bool sx) (.slice ax kx cx) (.bool tx) (.slice ay ky cy))⟩
 by_cases k3:k = 3
 ·
  subst k3
  obtain ⟨_,_,hs,hh⟩:=okW_parts HO.out
  have hr:riseB ss = true:=by unfold hangB at hh; simpa using hh
  have hmn:m = n:=by have h1:=fits3 (okW_parts HO.out).1; have h2:=HF.out; omega
  have HB:=hid' (And.intro hs (And.intro hr hmn))
  obtain ⟨ao2,cap2,hv2,hx2⟩:=HI.out
  simp only [Value.slice.injEq] at hv2
  obtain ⟨rfl,hl2,rfl⟩:=hv2
  obtain ⟨b2,o2,rfl,hb2,hc2⟩:=hx2 (by have:=HF.out; omega)
  have HD:Hid (∀ V,Kept w V→∀ j,j < m→V.cell? ⟨b2,o2 + j,none⟩ = some (.int .i64 (ss.getD j 0))):=fun V hV j hj => (Below.cell hV (p:=⟨b2,o2 + j,none⟩) hb2).trans (hc2 j (by omega))
  have nrb2:¬ pr = b2:=by have:=HP.out; omega
  have hm1:1≤m:=by have:=HF.out; omega
  have hm1z:(0:Int) < (m:Int):=by omega
  have hm1n:0 < m:=by omega
  have hn1z:(0:Int) < (n:Int):=by have:=HF.out; omega
  have hn1n:0 < n:=by have:=HF.out; omega
  have HQ3:Hid (sayW 3 vs ss t = sayQ vs ss t):=by show _ = _; unfold sayW; rw [if_neg (by decide),if_pos rfl]
  have hKw:=hid' (HV.out W KW.out).2.2
  clear hs hh hr hmn hx2 hc2 hb2 hl2
  go_wp2_with fail
  go_loopw [10] (fun vi wr => ∃ j:Nat,j + 1≤m∧vi = .int .i64 ((j:Int) + 1)∧wr = W∧Hid (∀ i,1≤i→i≤j→¬ fa ss t = i)) (fun vi _ => m - (intOf vi).toNat)
  case atStart => exact ⟨0,by omega,rfl,rfl,fun i h1 h2 => by omega⟩
  case round =>
   obtain ⟨j,hj,rfl,hw,HJ⟩:=hrel
   subst hw
   by_cases hlt:j + 1 < m
   ·
    have hltz:(j:Int) + 1 < (m:Int):=by omega
    have hjm:j < m:=by omega
    have hjm1:j + 1 < m:=hlt
    have hjn:j < n:=by have:=HB.out; omega
    have hjn1:j + 1 < n:=by have:=HB.out; omega
    have c0:=HD.out _ hKw.out j hjm
    have c1:=HD.out _ hKw.out (j + 1) hjm1
    obtain ⟨u0,u1⟩:=HC.out.2 _ hKw.out j hjn
    obtain ⟨u2,u3⟩:=HC.out.2 _ hKw.out (j + 1) hjn1
    have HFI:=hid' (fa_iff (t:=t) HB.out.2.1 (i:=j + 1) (by omega) (by have:=HF.out; omega))
    have HSg:Hid (fa ss t = j + 1→sayQ vs ss t = seg (vs.getD j (0,0)) (vs.getD (j + 1) (0,0)) (t - ss.getD j 0) (ss.getD (j + 1) 0 - ss.getD j 0)):=fun h => by
     unfold sayQ
     rw [if_neg (by have:=HF.out; omega),if_neg (by omega),h]
     rfl
    have HOk:=hid' (And.intro (okN_at HO.out j (by have:=HF.out; omega)) (okN_at HO.out (j + 1) (by have:=HF.out; omega)))
    have s0:=okS_all HB.out.1 j (by have:=HF.out; omega)
    have s1:=okS_all HB.out.1 (j + 1) (by have:=HF.out; omega)
    rw [show j + 1 - 1 = j from rfl] at HFI
    obtain ⟨yy,hyy⟩:∃ y,vs.getD j (0,0) = y:=⟨_,rfl⟩
    obtain ⟨zz,hzz⟩:∃ y,vs.getD (j + 1) (0,0) = y:=⟨_,rfl⟩
    obtain ⟨sx0,hsx⟩:∃ y,ss.getD j 0 = y:=⟨_,rfl⟩
    obtain ⟨sy0,hsy⟩:∃ y,ss.getD (j + 1) 0 = y:=⟨_,rfl⟩
    rw [hyy] at u0 u1 HOk HSg
    rw [hzz] at u2 u3 HOk HSg
    rw [hsx] at c0 HFI HSg s0
    rw [hsy] at c1 HFI HSg s1
    obtain ⟨x0,x1⟩:=yy
    obtain ⟨x2,x3⟩:=zz
    have HEQ:=hid' (And.intro hyy (And.intro hzz (And.intro hsx hsy)))
    clear hyy hzz hsx hsy
    dsimp only at u0 u1 u2 u3 HOk
    have hm16:=HF.out.2.2.2.2
    have e1:IntKind.i64.wrap ((j:Int) + 1 - 1) = (j:Int):=by rw [IntKind.wrap_i64]; omega
    have e1':IntKind.i64.wrap (j:Int) = (j:Int):=by rw [IntKind.wrap_i64]; omega
    have e2:(j:Int) < (n:Int):=by omega
    have e3:(j:Int) + 1 < (n:Int):=by omega
    have e4:(j:Int) < (m:Int):=by omega
    have e6:((j:Int) + 1).toNat = j + 1:=by omega
    have e7:(0:Int)≤(j:Int) + 1:=by omega
    have e8:IntKind.i64.wrap (t - sx0) = t - sx0:=by rw [IntKind.wrap_i64]; omega
    have e9:IntKind.i64.wrap (sy0 - sx0) = sy0 - sx0:=by rw [IntKind.wrap_i64]; omega
    by_cases hc1:sx0≤t
    ·
     by_cases hc2:t < sy0
     ·
      have HE:Hid (sayW 3 vs ss t = seg (x0,x1) (x2,x3) (t - sx0) (sy0 - sx0)):=by show _ = _; rw [HQ3.out]; exact HSg.out (HFI.out.1 ⟨hc1,hc2⟩)
      go_wp2_with fail
      clear HFI HSg HJ q0 q2
      go_region_held3 (fun w' => w'.cell? ⟨p1,1,none⟩ = some (.slice (some ⟨b1,o1,none⟩) n c)∧w'.cell? ⟨b1,o1 + j * 2,none⟩ = some (.int .i64 x0)∧w'.cell? ⟨b1,o1 + j * 2 + 1,none⟩ = some (.int .i64 x1)∧w'.cell? ⟨b1,o1 + (j + 1) * 2,none⟩ = some (.int .i64 x2)∧w'.cell? ⟨b1,o1 + (j + 1) * 2 + 1,none⟩ = some (.int .i64 x3)∧w'.cell? ⟨b2,o2 + j,none⟩ = some (.int .i64 sx0)∧w'.cell? ⟨b2,o2 + (j + 1),none⟩ = some (.int .i64 sy0)) (go_keep) (first
       | (go_at_call 51; refine (line_any x0 x1 x2 x3 (t - sx0) (sy0 - sx0) _ HOk.out.1 HOk.out.2 (by omega) (by omega) (by omega) (by omega)).mono ?_; rintro e w9 ⟨hk9,u9,rfl,f9⟩; obtain ⟨sx,ax,kx,cx,tx,ay,ky,cy,rfl⟩:=f9.shape; have K9:=(Kept.refl _).drew.trans hk9; have z:=(HV.out _ K9).2.1; have HZ:=hid' (And.intro z (And.intro (HV.out _ K9).2.2 f9)); have z0:=z.c0; have z1:=z.c1; have z2:=z.c2; have z3:=z.c3; have y0:=z.fz 0; have y1:=z.fz 1; have y2:=z.fz 2; have y3:=z.fz 3; clear f9; have d1:=(HV.out _ K9).1.c1; obtain ⟨d2,d3⟩:=HC.out.2 _ (HV.out _ K9).2.2 j hjn; obtain ⟨d4,d5⟩:=HC.out.2 _ (HV.out _ K9).2.2 (j + 1) hjn1; rw [HEQ.out.1] at d2 d3; rw [HEQ.out.2.1] at d4 d5; have d6:=HD.out _ (HV.out _ K9).2.2 j hjm; have d7:=HD.out _ (HV.out _ K9).2.2 (j + 1) hjm1; rw [HEQ.out.2.2.1] at d6; rw [HEQ.out.2.2.2] at d7))
      clear z K9 hk9
      go_wp2
      exact bodyPost_ret (v:=.agg #[.bool sx,.slice ax kx cx,.bool tx,.slice ay ky cy]) (by simp [results,Tryz.results27,go_sem,z0,z1,z2,z3]) rfl ⟨F.Kept.put4 HZ.out.2.1 HP.out _ _ _ _,_,rfl,by rw [HE.out]; exact say_seg HOk.out.1 HOk.out.2 (by omega) (by omega) (by omega) (by omega) (FT.put4 HZ.out.2.2 HZ.out.1 (.bool sx) (.slice ax kx cx) (.bool tx) (.slice ay ky cy))⟩
     ·
      go_wp2_with fail
      go_roundw
      case rel => exact ⟨j + 1,by omega,by push_cast; go_num,trivial,fun i h1 h2 h3 => by
       by_cases e:i = j + 1
       ·
        subst e; exact hc2 (HFI.out.2 h3).2
       ·
        exact HJ.out i h1 (by omega) h3⟩
      case measure => show m - ((j:Int) + 1 + 1).toNat < m - ((j:Int) + 1).toNat; omega
    ·
     go_wp2_with fail
     go_roundw
     case rel => exact ⟨j + 1,by omega,by push_cast; go_num,trivial,fun i h1 h2 h3 => by
      by_cases e:i = j + 1
      ·
       subst e; exact hc1 (HFI.out.2 h3).1
      ·
       exact HJ.out i h1 (by omega) h3⟩
     case measure => show m - ((j:Int) + 1 + 1).toNat < m - ((j:Int) + 1).toNat; omega
   ·
    have hltz:¬ (j:Int) + 1 < (m:Int):=by omega
    have c0:=HD.out _ hKw.out 0 hm1n
    have hle:=fa_le ss t
    have hb0:=fun (h:0 < fa ss t) => fa_below (l:=ss) (t:=t) (j:=0) h
    have ha0:=fun (h:fa ss t < ss.length) => fa_at (l:=ss) (t:=t) h
    simp only [Nat.add_zero] at c0
    by_cases hc:t < ss.getD 0 0
    ·
     have hf0:fa ss t = 0:=by
      rcases Nat.eq_zero_or_pos (fa ss t) with h | h
      ·
       exact h
      ·
       have:=hb0 h; omega
     have HE:Hid (sayW 3 vs ss t = lev (vs.getD 0 (0,0))):=by show _ = _; rw [HQ3.out]; unfold sayQ; rw [if_neg (by have:=HF.out; omega),if_pos hf0]
     have HOk:=hid' (okN_at HO.out 0 (by have:=HF.out; omega))
     obtain ⟨u0,u1⟩:=HC.out.2 _ hKw.out 0 hn1n
     simp only [Nat.zero_mul,Nat.add_zero] at u0 u1
     generalize ss.getD 0 0 = sx0 at *
     obtain ⟨yy,hyy⟩:∃ y,vs.getD 0 (0,0) = y:=⟨_,rfl⟩
     rw [hyy] at u0 u1 HOk HE
     obtain ⟨x0,x1⟩:=yy
     dsimp only at u0 u1 HOk
     clear hle hb0 ha0 hf0 hyy
     go_wp2_with fail
     refine (ft_num _ x0 x1 HOk.out).mono ?_
     rintro e w1 ⟨hk,u,rfl,f⟩
     have KK:=(Kept.refl _).trans hk
     obtain ⟨sx,ax,kx,cx,tx,ay,ky,cy,rfl⟩:=f.shape
     have z:=(HV.out _ KK).2.1
     have HZ:=hid' (And.intro z (And.intro (HV.out _ KK).2.2 f))
     have z0:=z.c0
     have z1:=z.c1
     have z2:=z.c2
     have z3:=z.c3
     have y0:=z.fz 0
     have y1:=z.fz 1
     have y2:=z.fz 2
     have y3:=z.fz 3
     clear z f  hk
     go_wp2_with fail
     exact bodyPost_ret (v:=.agg #[.bool sx,.slice ax kx cx,.bool tx,.slice ay ky cy]) (by simp [results,Tryz.results27,go_sem,z0,z1,z2,z3]) rfl ⟨F.Kept.put4 HZ.out.2.1 HP.out _ _ _ _,_,rfl,by rw [HE.out]; exact say_lev HOk.out (FT.put4 HZ.out.2.2 HZ.out.1 (.bool sx) (.slice ax kx cx) (.bool tx) (.slice ay ky cy))⟩
    ·
     have hfm:fa ss t = ss.length:=by
      have hF:=HF.out
      rcases Nat.lt_or_ge (fa ss t) ss.length with h | h
      ·
       exfalso
       rcases Nat.eq_zero_or_pos (fa ss t) with h0 | h0
       ·
        have:=ha0 h; rw [h0] at this; omega
       ·
        exact HJ.out (fa ss t) h0 (by omega) rfl
      ·
       omega
     have HE:Hid (sayW 3 vs ss t = lev (vs.getD (m - 1) (0,0))):=by show _ = _; rw [HQ3.out]; unfold sayQ; rw [if_pos hfm,show vs.length - 1 = m - 1 by have h1:=HF.out; have h2:=HB.out.2.2; omega]
     have hmn1:m - 1 < n:=by have h2:=HB.out.2.2; omega
     have HOk:=hid' (okN_at HO.out (m - 1) (by have:=HF.out; omega))
     obtain ⟨u0,u1⟩:=HC.out.2 _ hKw.out (m - 1) hmn1
     have e1:IntKind.i64.wrap ((m:Int) - 1) = ((m - 1:Nat):Int):=by have:=HF.out; rw [IntKind.wrap_i64]; omega
     have e2:((m - 1:Nat):Int) < (n:Int):=by omega
     generalize ss.getD 0 0 = sx0 at *
     obtain ⟨yy,hyy⟩:∃ y,vs.getD (m - 1) (0,0) = y:=⟨_,rfl⟩
     rw [hyy] at u0 u1 HOk HE
     obtain ⟨x0,x1⟩:=yy
     dsimp only at u0 u1 HOk
     obtain ⟨i,hi⟩:∃ i,i = m - 1:=⟨_,rfl⟩
     rw [← hi] at u0 u1 e1 e2 hmn1 hyy
     clear hle hb0 ha0 hfm hyy hi HJ
     go_wp2_with fail
     refine (ft_num _ x0 x1 HOk.out).mono ?_
     rintro e w1 ⟨hk,u,rfl,f⟩
     have KK:=(Kept.refl _).trans hk
     obtain ⟨sx,ax,kx,cx,tx,ay,ky,cy,rfl⟩:=f.shape
     have z:=(HV.out _ KK).2.1
     have HZ:=hid' (And.intro z (And.intro (HV.out _ KK).2.2 f))
     have z0:=z.c0
     have z1:=z.c1
     have z2:=z.c2
     have z3:=z.c3
     have y0:=z.fz 0
     have y1:=z.fz 1
     have y2:=z.fz 2
     have y3:=z.fz 3
     clear z f  hk
     go_wp2_with fail
     exact bodyPost_ret (v:=.agg #[.bool sx,.slice ax kx cx,.bool tx,.slice ay ky cy]) (by simp [results,Tryz.results27,go_sem,z0,z1,z2,z3]) rfl ⟨F.Kept.put4 HZ.out.2.1 HP.out _ _ _ _,_,rfl,by rw [HE.out]; exact say_lev HOk.out (FT.put4 HZ.out.2.2 HZ.out.1 (.bool sx) (.slice ax kx cx) (.bool tx) (.slice ay ky cy))⟩
 have b2':(k == 2) = false:=by simpa using k2
 have b3':(k == 3) = false:=by simpa using k3
 have HE:Hid (sayW k vs ss t = lev (vs.getD (t % n).toNat (0,0))):=by show _ = _; unfold sayW; rw [if_neg k2,if_neg k3,HF.out.1]
 have hn0:=HF.out.2.2.1
 have hn16:=HF.out.2.2.2.1
 have hm0:0≤t % (n:Int):=Int.emod_nonneg _ (by omega)
 have hm1:t % (n:Int) < (n:Int):=Int.emod_lt_of_pos _ (by omega)
 have hKw:=(HV.out W KW.out).2.2
 have HOk:=hid' (okN_at HO.out (t % (n:Int)).toNat (by have:=HF.out; omega))
 obtain ⟨i,hi⟩:∃ i:Nat,t % (n:Int) = (i:Int):=⟨(t % (n:Int)).toNat,by omega⟩
 have hi':(t % (n:Int)).toNat = i:=by omega
 rw [hi'] at HOk HE
 have hin:i < n:=by omega
 obtain ⟨u0,u1⟩:=HC.out.2 W hKw i hin
 obtain ⟨y,hy⟩:∃ y,vs.getD i (0,0) = y:=⟨_,rfl⟩
 rw [hy] at u0 u1 HOk HE
 obtain ⟨x0,x1⟩:=y
 dsimp only at u0 u1 HOk
 have HEQ:=hid' hy
 have e0:¬ n = 0:=by omega
 have e0':(n == 0) = false:=by simpa using e0
 have e1:¬ (n:Int) = 0:=by omega
 have e2:((n:Int) == 0) = false:=by simpa using e1
 have e3:(i:Int) < (n:Int):=by omega
 have e4:Int.tmod t (n:Int) = (i:Int):=by rw [Int.tmod_eq_emod_of_nonneg ht0]; exact hi
 have e5:IntKind.i64.wrap (i:Int) = (i:Int):=by rw [IntKind.wrap_i64]; omega
 clear hm0 hm1 hi' hy hKw hn0 hn16
 go_wp2_with fail
 go_region_held3 (fun w' => w'.cell? ⟨p1,1,none⟩ = some (.slice (some ⟨b1,o1,none⟩) n c)∧w'.cell? ⟨b1,o1 + i * 2,none⟩ = some (.int .i64 x0)∧w'.cell? ⟨b1,o1 + i * 2 + 1,none⟩ = some (.int .i64 x1)) (go_keep) (first
  | (go_at_call 50; refine (ft_num _ x0 x1 HOk.out).mono ?_; rintro e w9 ⟨hk9,u9,rfl,f9⟩; obtain ⟨sx,ax,kx,cx,tx,ay,ky,cy,rfl⟩:=f9.shape; have K9:=(Kept.refl W).drew.trans hk9; have z:=(HV.out _ K9).2.1; have HZ:=hid' (And.intro z (And.intro (HV.out _ K9).2.2 f9)); have z0:=z.c0; have z1:=z.c1; have z2:=z.c2; have z3:=z.c3; have y0:=z.fz 0; have y1:=z.fz 1; have y2:=z.fz 2; have y3:=z.fz 3; clear f9; have d1:=(HV.out _ K9).1.c1; obtain ⟨d2,d3⟩:=HC.out.2 _ (HV.out _ K9).2.2 i hin; rw [HEQ.out] at d2 d3))
 clear z K9 hk9
 go_wp2
 exact bodyPost_ret (v:=.agg #[.bool sx,.slice ax kx cx,.bool tx,.slice ay ky cy]) (by simp [results,Tryz.results27,go_sem,z0,z1,z2,z3]) rfl ⟨F.Kept.put4 HZ.out.2.1 HP.out _ _ _ _,_,rfl,by rw [HE.out]; exact say_lev HOk.out (FT.put4 HZ.out.2.2 HZ.out.1 (.bool sx) (.slice ax kx cx) (.bool tx) (.slice ay ky cy))⟩
end V
end Go.Proofs.YtgofinhnlcbafaaGreat

namespace Go.Proofs.YtgofinhnlcbafaaGreat
open Go.RowKit
namespace V
open Q (hid' Row3 Row2 okN)
set_option maxRecDepth 100000 in
set_option maxHeartbeats 4000000 in
theorem rat_any (k:Int) (a1 a2:Option Addr) (n c m c':Nat) (vs:List (Int × Int)) (ss:List Int) (t:Int) (w:World) (h1:NSl w (.slice a1 n c) vs) (h2:ISl w (.slice a2 m c') ss) (hn:n≤9223372036854775807) (hm:m≤9223372036854775807) :
  Calls Tryz.prog 9 #[.agg #[.int .i64 k,.slice a1 n c,.slice a2 m c'],.int .i64 t] w fun e w' => Kept w w'∧e = .returned (.tuple #[.int .i64 (atW k vs ss t).1,.int .i64 (atW k vs ss t).2]):=by
 have HS:=hid' (And.intro h1 h2)
 clear h1 h2
 go_enter Tryz.func9,Tryz.ntmps9
 go_upto_region 1 with fail
 have hK:=(Kept.refl w).alloc (.cells #[.int .i64 k,.slice a1 n c,.slice a2 m c'] 25)
 have hR:=Row3.alloc 25 w (.int .i64 k) (.slice a1 n c) (.slice a2 m c')
 generalize w.alloc (.cells #[.int .i64 k,.slice a1 n c,.slice a2 m c'] 25) = W at hK hR ⊢
 obtain ⟨p1,hp1⟩:∃ p,p = w.heap.size:=⟨_,rfl⟩
 rw [← hp1] at hR ⊢
 have HK:=hid' hK
 have HR:=hid' hR
 have q0:=hR.c0
 have q1:=hR.c1
 have q2:=hR.c2
 clear hp1 hK hR
 go_wp2_with fail
 refine (rvalid_any k a1 a2 n c m c' vs ss _ (HS.out.1.kept HK.out) (HS.out.2.kept HK.out) hn hm).mono ?_
 rintro e w1 ⟨hk1,rfl⟩
 have HK1:=hid' (HK.out.trans hk1)
 have HR1:=hid' (HR.out.kept hk1)
 clear hk1 q0 q1 q2
 by_cases ho:okW k vs ss = true
 ·
  rw [ho]
  have HO:=hid' ho
  clear ho
  by_cases ht0:t < 0
  ·
   have HZ:Hid (atW k vs ss t = (0,4)):=by
    show _ = _
    unfold atW
    rw [if_pos HO.out,if_neg (by unfold okS; simp; omega)]
   go_wp2_with fail
   all_goals
    go_ret2
    exact ⟨HK1.out,by rw [HZ.out]; rfl⟩
  by_cases ht1:1000000000 < t
  ·
   have ht0':0≤t:=by omega
   have HZ:Hid (atW k vs ss t = (0,4)):=by
    show _ = _
    unfold atW
    rw [if_pos HO.out,if_neg (by unfold okS; simp; omega)]
   go_wp2_with fail
   all_goals
    go_ret2
    exact ⟨HK1.out,by rw [HZ.out]; rfl⟩
  have e0:0≤t∧t≤1000000000:=by omega
  have f0:0≤t:=by omega
  have f1:t≤1000000000:=by omega
  have HZ:Hid (atW k vs ss t = (F.gridV (sayW k vs ss t),F.gridE (sayW k vs ss t))):=by
   show _ = _
   unfold atW
   rw [if_pos HO.out,if_pos (by unfold okS; simp; omega)]
  have q0:=HR1.out.c0
  have q1:=HR1.out.c1
  have q2:=HR1.out.c2
  go_wp2_with fail
  refine (says_any k a1 a2 n c m c' vs ss t _ (HS.out.1.kept HK1.out) (HS.out.2.kept HK1.out) e0 HO.out).mono ?_
  rintro e w2 ⟨hk2,u,rfl,A,S,fA,hS,hS2,hA,hz⟩
  obtain ⟨sx,ax,kx,cx,tx,ay,ky,cy,rfl⟩:=fA.shape
  have HA:=hid' (And.intro fA (And.intro hS (And.intro hS2 (And.intro hA hz))))
  have HK2:=hid' (HK1.out.trans hk2)
  clear hk2 fA hS hS2 hA hz q0 q1 q2
  go_wp2_with fail
  refine (ft_billion _ HA.out.1 HA.out.2.1 (by rw [Int.natAbs_mul]; exact Nat.le_trans (Nat.mul_le_mul_right _ HA.out.2.2.2.1) (by decide)) (Nat.le_trans HA.out.2.2.1 (by decide))).mono ?_
  rintro e w3 ⟨hk3,u3,rfl,f3⟩
  obtain ⟨sy,bx,lx,dx,ty,by',ly,dy,rfl⟩:=f3.shape
  have H3:=hid' f3
  have HK3:=hid' (HK2.out.trans hk3)
  clear hk3 f3
  go_wp2_with fail
  refine (ft_grid _ H3.out HA.out.2.1).mono ?_
  rintro e w4 ⟨hk4,rfl⟩
  rw [HA.out.2.2.2.2]
  have HK4:=hid' (HK3.out.trans hk4)
  clear hk4
  generalize F.gridV (sayW k vs ss t) = gv at *
  generalize F.gridE (sayW k vs ss t) = ge at *
  go_wp2_with fail
  go_ret2
  exact ⟨HK4.out,by rw [HZ.out]; rfl⟩
 ·
  have ho:okW k vs ss = false:=by simpa using ho
  rw [ho]
  have HZ:Hid (atW k vs ss t = (0,40)):=by
   show _ = _
   unfold atW
   rw [ho,if_neg (by decide)]
  go_wp2_with fail
  all_goals
   go_ret2
   exact ⟨HK1.out,by rw [HZ.out]; rfl⟩
end V
end Go.Proofs.YtgofinhnlcbafaaGreat
