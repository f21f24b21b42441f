/- shuntlaw04.WaveCalls. -/
import Derived.Test.YtgofinhnlcbafaaGreatGax
import Derived.Test.YtgofinhnlcbafaaGreatGax
import Derived.Test.YtgofinhnlcbafaaGreatGax
import Derived.Test.YtgofinhnlcbafaaGreatGaz
import Derived.Test.YtgofinhnlcbafaaGreatGay
import Derived.Test.YtgofinhnlcbafaaGreatGay
import Derived.Test.YtgofinhnlcbafaaGreatVwhole
namespace Go.Proofs.YtgofinhnlcbafaaGreat
open Go.RowKit
namespace V
open Q (hid' Row3 Row2 okN)
structure CaI (w wr:World) (p po g1 cap1 g2 cap2 n m:Nat) (k:Int) (x1 x2:Value) (vs:List (Int × Int)) (ss:List Int) (f1 f2:Nat→Value):Prop where
 kp:Kept w wr
 rp:Row3 25 wr p (.int .i64 k) x1 x2
 ro:Row3 25 wr po (.int .i64 k) (.slice (some ⟨g1,0,none⟩) n cap1) (.slice (some ⟨g2,0,none⟩) m cap2)
 L:LentR w.heap.size wr g1 cap1 g2 cap2 n m vs ss f1 f2
theorem CaI.kept {w wr wr':World} {p po g1 cap1 g2 cap2 n m:Nat} {k:Int} {x1 x2:Value} {vs:List (Int × Int)} {ss:List Int} {f1 f2:Nat→Value} (h:CaI w wr p po g1 cap1 g2 cap2 n m k x1 x2 vs ss f1 f2) (q:Kept wr wr'):CaI w wr' p po g1 cap1 g2 cap2 n m k x1 x2 vs ss f1 f2 :=
 ⟨h.kp.trans q,h.rp.kept q,h.ro.kept q,h.L.kept q⟩
set_option maxRecDepth 100000 in
set_option maxHeartbeats 4000000 in
theorem wcalls_any (k:Int) (a1 a2 a3:Option Addr) (n c m c' l c3:Nat) (vs:List (Int × Int)) (ss ls:List Int) (w:World) (h1:NSl w (.slice a1 n c) vs) (h2:ISl w (.slice a2 m c') ss) (h3:ISl w (.slice a3 l c3) ls) (hn:(n + 1) * 16≤140737488355328) (hm:(m + 1) * 8≤140737488355328) (hl:l≤9223372036854775807) :
  Calls Tryz.prog 3 #[.agg #[.int .i64 k,.slice a1 n c,.slice a2 m c'],.slice a3 l c3] w fun e w' => e = .returned (.bool true)∧Kept w w':=by
 have HS:=hid' (And.intro h1 (And.intro h2 h3))
 clear h1 h2 h3
 have hn':n≤9223372036854775807:=by omega
 have hm':m≤9223372036854775807:=by omega
 go_enter Tryz.func3,Tryz.ntmps3
 go_upto_region 1 with fail
 have hK:=(Kept.refl w).alloc (.cells #[.int .i64 k,.slice a1 n c,.slice a2 m c'] 25)
 have hR:=Row3.alloc 25 w (.int .i64 k) (.slice a1 n c) (.slice a2 m c')
 generalize w.alloc (.cells #[.int .i64 k,.slice a1 n c,.slice a2 m c'] 25) = W at hK hR ⊢
 obtain ⟨p,hp⟩:∃ p,p = w.heap.size:=⟨_,rfl⟩
 rw [← hp] at hR ⊢
 have HK:=hid' (And.intro hK hR)
 clear hp hK hR
 go_wp2_with fail
 refine (awake_any _).mono ?_
 rintro e w1 ⟨hk1,rfl⟩
 have HK1:=hid' (And.intro (HK.out.1.trans hk1) (HK.out.2.kept hk1))
 clear hk1 HK
 have q0:=HK1.out.2.c0
 have q1:=HK1.out.2.c1
 have q2:=HK1.out.2.c2
 go_wp2_with fail
 refine (lent_any k a1 a2 n c m c' vs ss w1 (HS.out.1.kept HK1.out.1) (HS.out.2.1.kept HK1.out.1) hn hm).mono ?_
 rintro e w2 ⟨hk2,g1,cap1,g2,cap2,f1,f2,rfl,hL⟩
 have HB:=hid' (And.intro hk2 hL)
 clear hk2 hL q0 q1 q2
 go_upto_region 4 with fail
 have hI:CaI w (w2.alloc (.cells #[.int .i64 k,.slice (some ⟨g1,0,none⟩) n cap1,.slice (some ⟨g2,0,none⟩) m cap2] 25)) p w2.heap.size g1 cap1 g2 cap2 n m k (.slice a1 n c) (.slice a2 m c') vs ss f1 f2:=by
  have ka:=(Kept.refl w2).alloc (.cells #[.int .i64 k,.slice (some ⟨g1,0,none⟩) n cap1,.slice (some ⟨g2,0,none⟩) m cap2] 25)
  have L:=HB.out.2.kept ka
  have s:=HK1.out.1.size
  exact ⟨(HK1.out.1.trans HB.out.1).trans ka,(HK1.out.2.kept HB.out.1).kept ka,Row3.alloc _ _ _ _ _,⟨Nat.le_trans s L.b1,Nat.le_trans s L.b2,L.ne,L.c1,L.c2,L.n1,L.n2,L.r1,L.r2,L.v1,L.v2,L.m1,L.m2⟩⟩
 generalize w2.alloc (.cells #[.int .i64 k,.slice (some ⟨g1,0,none⟩) n cap1,.slice (some ⟨g2,0,none⟩) m cap2] 25) = W3 at hI ⊢
 obtain ⟨po,hpo⟩:∃ p,p = w2.heap.size:=⟨_,rfl⟩
 rw [← hpo] at hI ⊢
 have HI:=hid' hI
 clear hI HB hpo HK1
 have sS:=hid' (fun (V:World) (K:Kept W3 V) => And.intro ((HI.out.kept K).ro.c0) (And.intro ((HI.out.kept K).ro.c1) (And.intro ((HI.out.kept K).ro.c2) (And.intro ((HI.out.kept K).rp.c0) (And.intro ((HI.out.kept K).rp.c1) ((HI.out.kept K).rp.c2))))))
 have KT:Kept W3 W3.drew:=(Kept.refl _).drew
 refine wp_region_held_drew (S:=fun w' => w'.cell? ⟨po,0,none⟩ = some (.int .i64 k)∧w'.cell? ⟨po,1,none⟩ = some (.slice (some ⟨g1,0,none⟩) n cap1)∧w'.cell? ⟨po,2,none⟩ = some (.slice (some ⟨g2,0,none⟩) m cap2)∧w'.cell? ⟨p,0,none⟩ = some (.int .i64 k)∧w'.cell? ⟨p,1,none⟩ = some (.slice a1 n c)∧w'.cell? ⟨p,2,none⟩ = some (.slice a2 m c')) (by kernel_rfl) (sS.out _ KT) (fun hHeld => ?_)
 generalize W3.drew = Wd at KT hHeld ⊢
 refine wpAnyH_take (i:=0) (v:=?va) rfl (by kernel_rfl) (by kernel_rfl) (by kernel_rfl) (fun _ _ _ h => h) (Or.inl ⟨by rfl,?ya⟩) hHeld ?ra
 case ya =>
  intro w' hSw
  obtain ⟨hSw0,hSw1,hSw2,hSw3,hSw4,hSw5⟩:=hSw
  go_simp
  with_reducible rfl
 case ra =>
 refine wpAnyH_take (i:=2) (v:=?vb) rfl (by kernel_rfl) (by kernel_rfl) (by kernel_rfl) (fun _ _ _ h => h) (Or.inl ⟨by rfl,?yb⟩) hHeld ?rb
 case yb =>
  intro w' hSw
  obtain ⟨hSw0,hSw1,hSw2,hSw3,hSw4,hSw5⟩:=hSw
  go_simp
  with_reducible rfl
 case rb =>
 refine wpAnyH_ready (rs:=[1]) (by kernel_rfl) (by simp) ?_
 refine AllReadyH.cons rfl (fun K hK => ?_) AllReadyH.nil
 go_simp
 refine (valid_any k _ _ n cap1 m cap2 vs ss _ (HI.out.kept KT).L.nsl (HI.out.kept KT).L.isl).mono ?_
 rintro e w5 ⟨hk5,rfl⟩
 refine hK.out _ _ (sS.out _ (KT.trans hk5)) (fun hHeld => ?_)
 clear hK K
 have KT:=KT.trans hk5
 refine wpAnyH_ready (rs:=[3]) (by kernel_rfl) (by simp) ?_
 refine AllReadyH.cons rfl (fun K hK => ?_) AllReadyH.nil
 go_simp
 refine (rvalid_any k a1 a2 n c m c' vs ss _ (HS.out.1.kept (HI.out.kept KT).kp) (HS.out.2.1.kept (HI.out.kept KT).kp) hn' hm').mono ?_
 rintro e w6 ⟨hk6,rfl⟩
 refine hK.out _ _ (sS.out _ (KT.trans hk6)) (fun hHeld => ?_)
 clear hK K
 have KT:=KT.trans hk6
 obtain ⟨bo,hbo⟩:∃ b,b = okW k vs ss:=⟨_,rfl⟩
 rw [← hbo]
 clear hbo
 refine wpAnyH_take (i:=4) (v:=.bool false) rfl (by kernel_rfl) (by kernel_rfl) (by kernel_rfl) (fun _ _ _ h => h) (Or.inl ⟨by rfl,?yc⟩) hHeld ?rc
 case yc =>
  intro w' hSw
  cases bo <;> (go_simp; try (with_reducible rfl))
 case rc =>
 refine wpAnyH_done (by kernel_rfl) ?_ _
 have HJ:=hid' (HI.out.kept KT)
 clear HI sS hHeld hk5 hk6 KT
 go_wp2_with fail
 go_loopw [27] (fun vi wr => ∃ (j:Nat),j≤l∧vi = .int .i64 (j:Int)∧Hid (CaI w wr p po g1 cap1 g2 cap2 n m k (.slice a1 n c) (.slice a2 m c') vs ss f1 f2)) (fun vi _ => l - (intOf vi).toNat)
 case atStart => exact ⟨0,Nat.zero_le _,rfl,HJ.out⟩
 case round =>
  obtain ⟨j,hj,rfl,I⟩:=hrel
  by_cases hlt:j < l
  ·
   have hltz:(j:Int) < (l:Int):=by omega
   obtain ⟨ao,cp,hv3,hx3⟩:=HS.out.2.2
   simp only [Value.slice.injEq] at hv3
   obtain ⟨rfl,hl3,rfl⟩:=hv3
   obtain ⟨b3,o3,rfl,hb3,hc3⟩:=hx3 (by omega)
   have t0:=(Below.cell I.out.kp (p:=⟨b3,o3 + j,none⟩) hb3).trans (hc3 j (by omega))
   obtain ⟨t,ht⟩:∃ t,t = ls.getD j 0:=⟨_,rfl⟩
   rw [← ht] at t0
   clear ht hx3 hc3 hb3 hl3
   have q0:=I.out.ro.c0
   have q1:=I.out.ro.c1
   have q2:=I.out.ro.c2
   go_wp2_with fail
   refine (at_any k _ _ n cap1 m cap2 vs ss t _ I.out.L.nsl I.out.L.isl).mono ?_
   rintro e w7 ⟨hk7,rfl⟩
   have I7:=hid' (I.out.kept hk7)
   clear hk7 q0 q1 q2 t0
   have q0:=I7.out.rp.c0
   have q1:=I7.out.rp.c1
   have q2:=I7.out.rp.c2
   obtain ⟨⟨av,ae⟩,ha⟩:∃ x,x = atW k vs ss t:=⟨_,rfl⟩
   rw [← ha]
   have HA:=hid' ha
   clear ha
   go_wp2_with fail
   refine (rat_any k a1 a2 n c m c' vs ss t _ (HS.out.1.kept I7.out.kp) (HS.out.2.1.kept I7.out.kp) hn' hm').mono ?_
   rintro e w8 ⟨hk8,rfl⟩
   rw [← HA.out]
   have I8:=hid' (I7.out.kept hk8)
   clear hk8 q0 q1 q2
   have q0:=I8.out.ro.c0
   have q1:=I8.out.ro.c1
   have q2:=I8.out.ro.c2
   go_wp2_with fail
   refine (next_any k _ _ n cap1 m cap2 vs ss t _ I8.out.L.nsl I8.out.L.isl).mono ?_
   rintro e w9 ⟨hk9,rfl⟩
   have I9:=hid' (I8.out.kept hk9)
   clear hk9 q0 q1 q2
   have q0:=I9.out.rp.c0
   have q1:=I9.out.rp.c1
   have q2:=I9.out.rp.c2
   obtain ⟨⟨nv,nb⟩,hb⟩:∃ x,x = nextW k vs ss t:=⟨_,rfl⟩
   rw [← hb]
   have HN:=hid' hb
   clear hb
   go_wp2_with fail
   refine (rnext_any k a1 a2 n c m c' vs ss t _ (HS.out.1.kept I9.out.kp) (HS.out.2.1.kept I9.out.kp) hn' hm').mono ?_
   rintro e w10 ⟨hk10,rfl⟩
   rw [← HN.out]
   have I10:=hid' (I9.out.kept hk10)
   clear hk10 q0 q1 q2
   cases nb
   all_goals
    go_wp2_with fail
    refine ⟨⟨j + 1,by omega,by go_num,I10.out⟩,?_⟩
    show l - ((j:Int) + 1).toNat < l - (j:Int).toNat
    omega
  ·
   obtain rfl:j = l:=by omega
   have hltz:¬ (j:Int) < (j:Int):=by omega
   have q0:=I.out.ro.c0
   have q1:=I.out.ro.c1
   have q2:=I.out.ro.c2
   have s0:=I.out.rp.c0
   have s1:=I.out.rp.c1
   have s2:=I.out.rp.c2
   go_wp2_with fail
   refine (whole_any k a1 a2 n c m c' g1 cap1 g2 cap2 w.heap.size vs ss f1 f2 _ (HS.out.1.kept I.out.kp) (HS.out.2.1.kept I.out.kp) I.out.L hn hm).mono ?_
   rintro e w7 ⟨hk7,rfl⟩
   have K7:=hid' (I.out.kp.trans hk7)
   clear hk7
   go_wp2_with fail
   go_ret
   exact ⟨rfl,K7.out⟩
end V
end Go.Proofs.YtgofinhnlcbafaaGreat
