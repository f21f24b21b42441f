/- Lemmas. -/
import Derived.Test.YtihnknnddldgiaaGreatDoorGai
import Derived.Deep.AppendLies
import Derived.Test.YtihnknnddldgiaaGreatDoorGae
import Derived.Test.YtihnknnddldgiaaGreatDoorGaf
import Derived.Deep.DeepCutAuto
namespace Go.Proofs.YtihnknnddldgiaaGreatDoor
open Go.RowKit
namespace D
set_option maxRecDepth 100000 in
set_option maxHeartbeats 2000000 in
theorem Less_any (m n:Bool) (aoa aob:Option Addr) (ka kb capa capb:Nat) (x y:Int) (w:World) (ha:NIs w m (.slice aoa ka capa) x) (hb:NIs w n (.slice aob kb capb) y) (hla:ka<=5000000) (hlb:kb<=5000000) :
  Calls Tryz.prog 88 #[.agg #[.bool m,.slice aoa ka capa],.agg #[.bool n,.slice aob kb capb]] w fun e w' => Kept w w'/\∃ s ao k cap,e = .returned (.agg #[.bool s,.slice ao k cap])/\NIs w' s (.slice ao k cap) (x - y)/\k<=max ka kb + 1:=by
 have HA:Hid (NIs w m (.slice aoa ka capa) x):=ha
 have HB:Hid (NIs w n (.slice aob kb capb) y):=hb
 have K3:∀ x y z,Kept w (((w.alloc x).alloc y).alloc z):=fun x y z => (((Kept.refl w).alloc x).alloc y).alloc z
 have hne1:¬ (w.heap.size + 1 + 1 = w.heap.size):=by omega
 clear ha hb
 go_enter Tryz.func88,Tryz.ntmps88
 go_wp2_with fail
 go_region_held3 (fun w' => w'.cell? ⟨w.heap.size,0,none⟩ = some (.bool m)/\w'.cell? ⟨w.heap.size,1,none⟩ = some (.slice aoa ka capa)/\w'.cell? ⟨w.heap.size + 1,0,none⟩ = some (.bool n)/\w'.cell? ⟨w.heap.size + 1,1,none⟩ = some (.slice aob kb capb)) (go_keep) (first
  | (go_at_call 87; refine (Minus_any n aob kb capb y _ (HB.out.kept (K3 _ _ _).drew) (by omega)).mono ?_; rintro e w1 ⟨hk,s1,a1,c1,rfl,hN1⟩; obtain ⟨hA0,hA1,hB0,hB1,hR0,hR1⟩:=box_kept3 (((Kept.refl _).drew).trans hk))
  | (go_at_call 50; refine (Plus_any m s1 aoa a1 ka kb capa c1 x (-y) _ (HA.out.kept ((K3 _ _ _).drew.trans hk)) hN1 hla hlb).mono ?_; rintro e w2 ⟨hk2,s2,a2,k2,c2,rfl,hN2,hl2⟩; obtain ⟨gA0,gA1,gB0,gB1,gR0,gR1⟩:=box_kept3 ((((Kept.refl _).drew).trans hk).trans hk2); have hf:=((((Kept.refl _).drew).trans hk).trans hk2).frozens))
 have HK:Hid (Kept w w2):=(((K3 _ _ _).drew).trans hk).trans hk2
 have HN:Hid (NIs w2 s2 (.slice a2 k2 c2) (x - y)/\k2<=max ka kb + 1):=⟨by rw [Int.sub_eq_add_neg]; exact hN2,hl2⟩
 clear hk hk2 hN1 hN2 hl2 K3 hA0 hA1 hB0 hB1 hR0 hR1
 go_wp2
 obtain ⟨l,hs,hr⟩:=HN.out.1
 exact bodyPost_ret (v:=.agg #[.bool s2,.slice a2 k2 c2]) (by simp [results,Tryz.results88,go_sem,gR0,gR1]) rfl ⟨(HK.out.setCell (by simp; omega) _).setCell (by simp; omega) _,s2,a2,k2,c2,rfl,⟨l,hs.box gR0 gR1 _ _,hr⟩,HN.out.2⟩
theorem sign_of {w:World} {m:Bool} {ao:Option Addr} {k cap:Nat} {z:Int} (h:NIs w m (.slice ao k cap) z):isgn z 0 = if k = 0 then 0 else if m then -1 else 1:=by
 obtain ⟨l,hs,hr,rfl⟩:=h
 have e:=hs.len
 subst e
 by_cases h0:l.length = 0
 ·
  rw [if_pos h0,int_zero h0]; rfl
 ·
  have hp:=D.val_pos hr.tr (fun e => h0 (by rw [e]; rfl))
  rw [if_neg h0]
  unfold isgn int
  cases m <;> simp <;> omega
set_option maxHeartbeats 1000000 in
theorem Sign_any (m:Bool) (ao:Option Addr) (k cap:Nat) (z:Int) (w:World) (h:NIs w m (.slice ao k cap) z) (_hk:k<=100000000) :
  Calls Tryz.prog 53 #[.agg #[.bool m,.slice ao k cap]] w fun e w' => e = .returned (.int .i64 (isgn z 0))/\Kept w w':=by
 rw [sign_of h]
 clear h
 by_cases h0:k = 0
 ·
  rw [if_pos h0]
  have hb:((k:Int) == 0) = true:=beq_iff_eq.2 (by omega)
  clear h0
  go_enter Tryz.func53,Tryz.ntmps53
  go_wp2
  go_ret
  exact ⟨rfl,(Kept.refl w).alloc _⟩
 ·
  rw [if_neg h0]
  have hb:((k:Int) == 0) = false:=beq_eq_false_iff_ne.2 (by omega)
  clear h0
  cases m
  all_goals
   go_enter Tryz.func53,Tryz.ntmps53
   go_wp2
   go_ret
   exact ⟨rfl,(Kept.refl w).alloc _⟩
theorem isgn_sub (x y:Int):isgn (x - y) 0 = isgn x y:=by
 unfold isgn
 by_cases h1:x < y
 ·
  rw [if_pos h1,if_pos (by omega)]
 ·
  rw [if_neg h1,if_neg (by omega)]
  by_cases h2:x = y
  ·
   rw [if_pos h2,if_pos (by omega)]
  ·
   rw [if_neg h2,if_neg (by omega)]
set_option maxHeartbeats 1000000 in
theorem Held_any (m n:Bool) (aoa aob:Option Addr) (ka kb capa capb:Nat) (x y:Int) (w:World) (ha:NIs w m (.slice aoa ka capa) x) (hb:NIs w n (.slice aob kb capb) y) (hla:ka<=5000000) (hlb:kb<=5000000) :
  Calls Tryz.prog 58 #[.agg #[.bool m,.slice aoa ka capa],.agg #[.bool n,.slice aob kb capb]] w fun e w' => e = .returned (.int .i64 (isgn x y))/\Kept w w':=by
 have HA:Hid (NIs w m (.slice aoa ka capa) x):=ha
 have HB:Hid (NIs w n (.slice aob kb capb) y):=hb
 have K2:∀ x y,Kept w ((w.alloc x).alloc y):=fun x y => ((Kept.refl w).alloc x).alloc y
 clear ha hb
 go_enter Tryz.func58,Tryz.ntmps58
 go_wp2_with fail
 refine (Less_any m n aoa aob ka kb capa capb x y _ (HA.out.kept (K2 _ _)) (HB.out.kept (K2 _ _)) hla hlb).mono ?_
 rintro e w1 ⟨hk,s1,a1,k1,c1,rfl,hN1,hl1⟩
 have HN:Hid (NIs w1 s1 (.slice a1 k1 c1) (x - y)/\Kept w w1):=⟨hN1,(K2 _ _).trans hk⟩
 clear hk hN1 K2
 go_wp2_with fail
 refine (Sign_any s1 a1 k1 c1 (x - y) _ HN.out.1 (by omega)).mono ?_
 rintro e w2 ⟨rfl,hk2⟩
 rw [isgn_sub]
 have HK:Hid (Kept w w2):=HN.out.2.trans hk2
 clear hk2
 go_wp2
 go_ret
 exact ⟨rfl,HK.out⟩
theorem isgn_low {x y:Int} (h:x < y):isgn x y = -1:=by unfold isgn; rw [if_pos h]
theorem isgn_up {x y:Int} (h:y < x):isgn x y = 1:=by unfold isgn; rw [if_neg (by omega),if_neg (by omega)]
theorem isgn_ge {x y:Int} (h:y<=x):0<=isgn x y:=by unfold isgn; rw [if_neg (by omega)]; split <;> omega
theorem isgn_le {x y:Int} (h:x<=y):isgn x y<=0:=by unfold isgn; split; omega; split <;> omega
set_option maxRecDepth 100000 in
set_option maxHeartbeats 2000000 in
theorem whole_high (m:Bool) (ao:Option Addr) (k cap:Nat) (z:Int) (w:World) (h:NIs w m (.slice ao k cap) z) (hk:k<=1000) (hz:9223372036854775807 < z) :
  Calls Tryz.prog 55 #[.agg #[.bool m,.slice ao k cap]] w fun e w' => e = .returned (.tuple #[.int .i64 0,.bool false])/\Kept w w':=by
 have HN:Hid (NIs w m (.slice ao k cap) z):=h
 have HY:Hid (isgn z (-9223372036854775808) = 1/\isgn z 9223372036854775807 = 1):=⟨isgn_up (by omega),isgn_up hz⟩
 clear h hz
 have hk0:Kept w ((w.alloc (Obj.cells #[.bool m,.slice ao k cap] 76)).drew):=((Kept.refl w).alloc _).drew
 have hA0:((w.alloc (Obj.cells #[.bool m,.slice ao k cap] 76)).drew).cell? ⟨w.heap.size,0,none⟩ = some (.bool m):=World.cell?_alloc_at _ _ _ _ (by simp)
 have hA1:((w.alloc (Obj.cells #[.bool m,.slice ao k cap] 76)).drew).cell? ⟨w.heap.size,1,none⟩ = some (.slice ao k cap):=World.cell?_alloc_at _ _ _ _ (by simp)
 go_enter Tryz.func55,Tryz.ntmps55
 go_wp2_with fail
 go_region_held3 (fun w' => w'.cell? ⟨w.heap.size,0,none⟩ = some (.bool m)/\w'.cell? ⟨w.heap.size,1,none⟩ = some (.slice ao k cap)) (go_keep) (first
  | (go_at_call 86; refine (wide_any _ _ (by omega) (by omega)).mono ?_; rintro e w1 ⟨hk1,s1,a1,k1,c1,rfl,hN1,hl1⟩; have hA0:=cell_kept hk1 hA0; have hA1:=cell_kept hk1 hA1; have hk0:=hk0.trans hk1)
  | (go_at_call 58; refine (Held_any m s1 ao a1 k k1 cap c1 _ _ _ (HN.out.kept hk0) hN1 (by omega) (by omega)).mono ?_; rintro e w2 ⟨rfl,hk2⟩; (first | rw [HY.out.1] | rw [HY.out.2]); have hA0:=cell_kept hk2 hA0; have hA1:=cell_kept hk2 hA1; have hk0:=hk0.trans hk2))
 have HK:Hid (Kept w w2):=hk0
 clear hk0 hA0 hA1
 go_wp2
 exact bodyPost_ret (v:=.tuple #[.int .i64 0,.bool false]) (by simp [results,Tryz.results55,go_sem]) rfl ⟨rfl,HK.out⟩
set_option maxRecDepth 100000 in
set_option maxHeartbeats 2000000 in
theorem whole_low (m:Bool) (ao:Option Addr) (k cap:Nat) (z:Int) (w:World) (h:NIs w m (.slice ao k cap) z) (hk:k<=1000) (hz:z < -9223372036854775808) :
  Calls Tryz.prog 55 #[.agg #[.bool m,.slice ao k cap]] w fun e w' => e = .returned (.tuple #[.int .i64 0,.bool false])/\Kept w w':=by
 have HN:Hid (NIs w m (.slice ao k cap) z):=h
 have HY:Hid (isgn z (-9223372036854775808) = -1):=isgn_low hz
 clear h hz
 have hk0:Kept w ((w.alloc (Obj.cells #[.bool m,.slice ao k cap] 76)).drew):=((Kept.refl w).alloc _).drew
 have hA0:((w.alloc (Obj.cells #[.bool m,.slice ao k cap] 76)).drew).cell? ⟨w.heap.size,0,none⟩ = some (.bool m):=World.cell?_alloc_at _ _ _ _ (by simp)
 have hA1:((w.alloc (Obj.cells #[.bool m,.slice ao k cap] 76)).drew).cell? ⟨w.heap.size,1,none⟩ = some (.slice ao k cap):=World.cell?_alloc_at _ _ _ _ (by simp)
 go_enter Tryz.func55,Tryz.ntmps55
 go_upto_region 1 with fail
 go_cut [15] (fun s15 wc => s15 = .bool true/\Hid (Kept w wc))
 case first =>
  refine wp_region_held_drew (S:=fun w' => w'.cell? ⟨w.heap.size,0,none⟩ = some (.bool m)/\w'.cell? ⟨w.heap.size,1,none⟩ = some (.slice ao k cap)) (by kernel_rfl) ⟨hA0,hA1⟩ (fun hHeld => ?_)
  refine wpAnyH_take (i:=0) (v:=?v0) rfl (by kernel_rfl) (by kernel_rfl) (by kernel_rfl) (fun _ _ _ h => h) (Or.inl ⟨by rfl,?y0⟩) hHeld ?r0
  case y0 =>
   intro w' hSw
   obtain ⟨hSw0,hSw1⟩:=hSw
   go_simp
   with_reducible rfl
  case r0 =>
  refine wpAnyH_ready (rs:=[1]) (by kernel_rfl) (by simp) ?_
  refine AllReadyH.cons rfl (fun K hK => ?_) AllReadyH.nil
  go_simp
  refine (wide_any _ _ (by omega) (by omega)).mono ?_
  rintro e w1 ⟨hk1,s1,a1,k1,c1,rfl,hN1,hl1⟩
  replace hA0:=cell_kept hk1 hA0
  replace hA1:=cell_kept hk1 hA1
  replace hk0:=hk0.trans hk1
  refine hK.out _ _ ⟨hA0,hA1⟩ (fun hHeld => ?_)
  clear hK K hk1
  refine wpAnyH_ready (rs:=[2]) (by kernel_rfl) (by simp) ?_
  refine AllReadyH.cons rfl (fun K hK => ?_) AllReadyH.nil
  go_simp
  refine (Held_any m s1 ao a1 k k1 cap c1 _ _ _ (HN.out.kept hk0) hN1 (by omega) (by omega)).mono ?_
  rintro e w2 ⟨rfl,hk2⟩
  rw [HY.out]
  replace hA0:=cell_kept hk2 hA0
  replace hA1:=cell_kept hk2 hA1
  replace hk0:=hk0.trans hk2
  refine hK.out _ _ ⟨hA0,hA1⟩ (fun hHeld => ?_)
  clear hK K hk2
  refine wpAnyH_take (i:=3) (v:=?v3) rfl (by kernel_rfl) (by kernel_rfl) (by kernel_rfl) (fun _ _ _ h => h) (Or.inl ⟨by rfl,?y3⟩) hHeld ?r3
  case y3 =>
   intro w' hSw
   obtain ⟨hSw0,hSw1⟩:=hSw
   go_simp
   with_reducible rfl
  case r3 =>
  refine wpAnyH_take (i:=4) (v:=?v4) rfl (by kernel_rfl) (by kernel_rfl) (by kernel_rfl) (fun _ _ _ h => h) (Or.inl ⟨by rfl,?y4⟩) hHeld ?r4
  case y4 =>
   intro w' hSw
   obtain ⟨hSw0,hSw1⟩:=hSw
   go_simp
   with_reducible rfl
  case r4 =>
  refine wpAnyH_ready (rs:=[5,6]) (by kernel_rfl) (by simp) ?_
  refine AllReadyH.cons rfl (fun K hK => ?_) ?_
  ·
   go_simp
   refine hK.out _ _ ⟨hA0,hA1⟩ (fun hHeld => ?_)
   clear hK K
   refine wpAnyH_ready (rs:=[6]) (by kernel_rfl) (by simp) ?_
   refine AllReadyH.cons rfl (fun K hK => ?_) AllReadyH.nil
   go_simp
   refine hK.out _ _ ⟨hA0,hA1⟩ (fun hHeld => ?_)
   clear hK K
   refine wpAnyH_ready (rs:=[7]) (by kernel_rfl) (by simp) ?_
   refine AllReadyH.cons rfl (fun K hK => ?_) AllReadyH.nil
   go_simp
   refine hK.out _ _ ⟨hA0,hA1⟩ (fun hHeld => ?_)
   clear hK K
   refine wpAnyH_ready (rs:=[8]) (by kernel_rfl) (by simp) ?_
   refine AllReadyH.cons rfl (fun K hK => ?_) AllReadyH.nil
   go_simp
   refine hK.out _ _ ⟨hA0,hA1⟩ (fun hHeld => ?_)
   clear hK K
   refine wpAnyH_ready (rs:=[9]) (by kernel_rfl) (by simp) ?_
   refine AllReadyH.cons rfl (fun K hK => ?_) AllReadyH.nil
   go_simp
   refine hK.out _ _ ⟨hA0,hA1⟩ (fun hHeld => ?_)
   clear hK K
   refine wpAnyH_done (by kernel_rfl) ?_ _
   go_wp2_with fail
   go_meet
   case rel => exact ⟨rfl,hk0⟩
  ·
   refine AllReadyH.cons rfl (fun K hK => ?_) AllReadyH.nil
   go_simp
   refine hK.out _ _ ⟨hA0,hA1⟩ (fun hHeld => ?_)
   clear hK K
   refine wpAnyH_ready (rs:=[5]) (by kernel_rfl) (by simp) ?_
   refine AllReadyH.cons rfl (fun K hK => ?_) AllReadyH.nil
   go_simp
   refine hK.out _ _ ⟨hA0,hA1⟩ (fun hHeld => ?_)
   clear hK K
   refine wpAnyH_ready (rs:=[7]) (by kernel_rfl) (by simp) ?_
   refine AllReadyH.cons rfl (fun K hK => ?_) AllReadyH.nil
   go_simp
   refine hK.out _ _ ⟨hA0,hA1⟩ (fun hHeld => ?_)
   clear hK K
   refine wpAnyH_ready (rs:=[8]) (by kernel_rfl) (by simp) ?_
   refine AllReadyH.cons rfl (fun K hK => ?_) AllReadyH.nil
   go_simp
   refine hK.out _ _ ⟨hA0,hA1⟩ (fun hHeld => ?_)
   clear hK K
   refine wpAnyH_ready (rs:=[9]) (by kernel_rfl) (by simp) ?_
   refine AllReadyH.cons rfl (fun K hK => ?_) AllReadyH.nil
   go_simp
   refine hK.out _ _ ⟨hA0,hA1⟩ (fun hHeld => ?_)
   clear hK K
   refine wpAnyH_done (by kernel_rfl) ?_ _
   go_wp2_with fail
   go_meet
   case rel => exact ⟨rfl,hk0⟩
 case rest =>
  obtain ⟨rfl,hkc⟩:=hcut
  have HK:Hid (Kept w wc):=hkc
  clear hkc
  go_wp2
  exact bodyPost_ret (v:=.tuple #[.int .i64 0,.bool false]) (by simp [results,Tryz.results55,go_sem]) rfl ⟨rfl,HK.out⟩
theorem isgn_ge2 {x y:Int} (h:y<=x):isgn x y = 0 ∨ isgn x y = 1:=by unfold isgn; rw [if_neg (by omega)]; split <;> simp
theorem isgn_le2 {x y:Int} (h:x<=y):isgn x y = -1 ∨ isgn x y = 0:=by unfold isgn; split; simp; split; simp; omega
set_option maxRecDepth 100000 in
set_option maxHeartbeats 4000000 in
theorem whole_in (m:Bool) (ao:Option Addr) (k cap:Nat) (z:Int) (w:World) (h:NIs w m (.slice ao k cap) z) (hk:k<=1000) (hz1:-9223372036854775808<=z) (hz2:z<=9223372036854775807) :
  Calls Tryz.prog 55 #[.agg #[.bool m,.slice ao k cap]] w fun e w' => e = .returned (.tuple #[.int .i64 z,.bool true])/\Kept w w':=by
 have HN:Hid (NIs w m (.slice ao k cap) z):=h
 have HZ:Hid (-9223372036854775808<=z/\z<=9223372036854775807):=⟨hz1,hz2⟩
 clear h hz1 hz2
 go_enter Tryz.func55,Tryz.ntmps55
 go_upto_region 1 with fail
 go_cut [15] (fun s15 wc => s15 = .bool false/\wc.cell? ⟨w.heap.size,0,none⟩ = some (.bool m)/\wc.cell? ⟨w.heap.size,1,none⟩ = some (.slice ao k cap)/\Hid (Kept w wc))
 case first =>
  have hk0:Kept w ((w.alloc (Obj.cells #[.bool m,.slice ao k cap] 76)).drew):=((Kept.refl w).alloc _).drew
  have hA0:((w.alloc (Obj.cells #[.bool m,.slice ao k cap] 76)).drew).cell? ⟨w.heap.size,0,none⟩ = some (.bool m):=World.cell?_alloc_at _ _ _ _ (by simp)
  have hA1:((w.alloc (Obj.cells #[.bool m,.slice ao k cap] 76)).drew).cell? ⟨w.heap.size,1,none⟩ = some (.slice ao k cap):=World.cell?_alloc_at _ _ _ _ (by simp)
  rcases isgn_ge2 HZ.out.1 with y1 | y1 <;> rcases isgn_le2 HZ.out.2 with y2 | y2
  all_goals
   have HY:Hid (_/\_):=⟨y1,y2⟩
   clear y1 y2
   go_region_held3 (fun w' => w'.cell? ⟨w.heap.size,0,none⟩ = some (.bool m)/\w'.cell? ⟨w.heap.size,1,none⟩ = some (.slice ao k cap)) (go_keep) (first
    | (go_at_call 86; refine (wide_any _ _ (by omega) (by omega)).mono ?_; rintro e w1 ⟨hk1,s1,a1,k1,c1,rfl,hN1,hl1⟩; have hA0:=cell_kept hk1 hA0; have hA1:=cell_kept hk1 hA1; have hk0:=hk0.trans hk1)
    | (go_at_call 58; refine (Held_any m s1 ao a1 k k1 cap c1 _ _ _ (HN.out.kept hk0) hN1 (by omega) (by omega)).mono ?_; rintro e w2 ⟨rfl,hk2⟩; (first | rw [HY.out.1] | rw [HY.out.2]); have hA0:=cell_kept hk2 hA0; have hA1:=cell_kept hk2 hA1; have hk0:=hk0.trans hk2))
   have HK:Hid (Kept w w2):=hk0
   go_wp2_with fail
   go_meet
   case rel => exact ⟨rfl,hA0,hA1,HK.out⟩
 case rest =>
  obtain ⟨rfl,hA0,hA1,hkc⟩:=hcut
  have HK:Hid (Kept w wc):=hkc
  clear hkc
  obtain ⟨l,hs,hr,hzl⟩:=HN.out
  have e:=hs.len
  subst e
  have HS:Hid (Sl w (.slice ao l.length cap) l/\int m l = z):=⟨hs,hzl⟩
  have bdl:=hr.bd
  have hmax:D.val l<=9223372036854775808:=by
   have h1:=D.natAbs_int m l
   rw [hzl] at h1
   have:=HZ.out
   omega
  clear hs hr hzl
  go_wp2
  go_loopw [4,5] (fun vu vi wr => ∃ (k u:Nat),k<=l.length/\vi = .int .i64 ((k:Int) - 1)/\vu = .int .u64 (u:Int)/\Hid (u = D.val (l.drop k))/\wr = wc) (fun _ vi _ => (intOf vi + 1).toNat)
  case atStart => exact ⟨l.length,0,Nat.le_refl _,by go_num,rfl,by show 0 = _; rw [List.drop_of_length_le (Nat.le_refl _)]; rfl,rfl⟩
  case round =>
   obtain ⟨k,u,hkl,rfl,rfl,hu,rfl⟩:=hrel
   by_cases h0:k = 0
   ·
    subst h0
    have hu0:u<=9223372036854775808:=by rw [hu.out]; simpa using hmax
    have HV:Hid ((if m then -(u:Int) else (u:Int)) = z):=by
     show _ = z
     rw [<- HS.out.2,hu.out]; unfold int; simp
    have hzb:=HZ.out
    cases m
    ·
     have hv:=HV.out
     simp only [Bool.false_eq_true,if_false] at hv
     have hw:IntKind.i64.wrap (u:Int) = z:=by rw [IntKind.wrap_i64]; omega
     clear hv hzb
     go_wp2
     exact bodyPost_ret (v:=.tuple #[.int .i64 z,.bool true]) (by simp [results,Tryz.results55,go_sem]) rfl ⟨rfl,HK.out⟩
    ·
     have hv:=HV.out
     simp only [if_true] at hv
     have hw:IntKind.i64.wrap (IntKind.u64.wrap (-(u:Int))) = z:=by rw [IntKind.wrap_i64,IntKind.wrap_u64]; omega
     clear hv hzb
     go_wp2
     exact bodyPost_ret (v:=.tuple #[.int .i64 z,.bool true]) (by simp [results,Tryz.results55,go_sem]) rfl ⟨rfl,HK.out⟩
   ·
    obtain ⟨bd,od,rfl,hcapd,hcd⟩:=(HS.out.1.kept HK.out).at (show k - 1 < l.length by omega)
    have hxb:=bdl.getD (k - 1)
    obtain ⟨x,hx⟩:∃ x,x = l.getD (k - 1) 0:=⟨_,rfl⟩
    rw [<- hx] at hcd hxb
    have hstep:D.val (l.drop (k - 1)) = x + 65536 * u:=by
     rw [D.drop_getD l (k - 1) (by omega),<- hx,show k - 1 + 1 = k by omega,<- hu.out]
    have hle:x + 65536 * u<=9223372036854775808:=by
     have h9:=D.take_drop_val l (k - 1) (by omega)
     have h8:1 * D.val (l.drop (k - 1))<=65536 ^ (k - 1) * D.val (l.drop (k - 1)):=Nat.mul_le_mul_right _ (pow_pos' _)
     omega
    have HST:Hid (x + 65536 * u = D.val (l.drop (k - 1))):=hstep.symm
    have hw1:IntKind.u64.wrap ((u:Int) * 65536) = (u:Int) * 65536:=by rw [IntKind.wrap_u64]; omega
    have hw2:IntKind.u64.wrap (x:Int) = (x:Int):=by rw [IntKind.wrap_u64]; omega
    have hw3:IntKind.u64.wrap ((u:Int) * 65536 + (x:Int)) = (u:Int) * 65536 + (x:Int):=by rw [IntKind.wrap_u64]; omega
    have hk1:1<=k:=by omega
    clear hx hstep
    go_wp2
    go_roundw
    case rel => exact ⟨k - 1,x + 65536 * u,by omega,by go_num,by go_num,HST.out,trivial⟩
    case measure => simp [intOf]; omega
theorem Whole_any (m:Bool) (ao:Option Addr) (k cap:Nat) (z:Int) (w:World) (h:NIs w m (.slice ao k cap) z) (hk:k<=1000) :
  Calls Tryz.prog 55 #[.agg #[.bool m,.slice ao k cap]] w fun e w' => e = .returned (.tuple #[.int .i64 (i64r z),.bool (i64e z == 0)])/\Kept w w':=by
 unfold i64r i64e
 by_cases h1:-9223372036854775808<=z
 ·
  by_cases h2:z<=9223372036854775807
  ·
   rw [if_pos ⟨h1,h2⟩,if_pos ⟨h1,h2⟩]; exact whole_in m ao k cap z w h hk h1 h2
  ·
   rw [if_neg (fun h => h2 h.2),if_neg (fun h => h2 h.2)]; exact whole_high m ao k cap z w h hk (by omega)
 ·
  rw [if_neg (fun h => h1 h.1),if_neg (fun h => h1 h.1)]; exact whole_low m ao k cap z w h hk (by omega)
end D
end Go.Proofs.YtihnknnddldgiaaGreatDoor
