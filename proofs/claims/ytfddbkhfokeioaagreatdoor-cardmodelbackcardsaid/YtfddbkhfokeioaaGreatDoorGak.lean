/- Take of package shuntref01: limbs as digits in base 65536. Less, Sign, Held of package shuntref01. -/
import Derived.Test.YtfddbkhfokeioaaGreatDoorGai
import Derived.Deep.AppendLies
import Derived.Test.YtfddbkhfokeioaaGreatDoorGae
namespace Go.Proofs.YtfddbkhfokeioaaGreatDoor
open Go.RowKit
namespace D
end D
end Go.Proofs.YtfddbkhfokeioaaGreatDoor

namespace Go.Proofs.YtfddbkhfokeioaaGreatDoor
open Go.RowKit
namespace D
set_option maxRecDepth 100000 in
set_option maxHeartbeats 2000000 in
theorem Less_any (m n:Bool) (aoa aob:Option Addr) (ka kb capa capb:Nat) (x y:Int) (w:World) (ha:NIs w m (.slice aoa ka capa) x) (hb:NIs w n (.slice aob kb capb) y) (hla:ka≤5000) (hlb:kb≤5000) :
  Calls Tryz.prog 109 #[.agg #[.bool m,.slice aoa ka capa],.agg #[.bool n,.slice aob kb capb]] w fun e w' => Kept w w'∧∃ s ao k cap,e = .returned (.agg #[.bool s,.slice ao k cap])∧NIs w' s (.slice ao k cap) (x - y)∧k≤max ka kb + 1:=by
 have HA:Hid (NIs w m (.slice aoa ka capa) x):=ha
 have HB:Hid (NIs w n (.slice aob kb capb) y):=hb
 have K3:∀ x y z,Kept w (((w.alloc x).alloc y).alloc z):=fun x y z => (((Kept.refl w).alloc x).alloc y).alloc z
 have hne1:¬ (w.heap.size + 1 + 1 = w.heap.size):=by omega
 clear ha hb
 go_enter Tryz.func109,Tryz.ntmps109
 go_wp2_with fail
 go_region_held3 (fun w' => w'.cell? ⟨w.heap.size,0,none⟩ = some (.bool m)∧w'.cell? ⟨w.heap.size,1,none⟩ = some (.slice aoa ka capa)∧w'.cell? ⟨w.heap.size + 1,0,none⟩ = some (.bool n)∧w'.cell? ⟨w.heap.size + 1,1,none⟩ = some (.slice aob kb capb)) (go_keep) (first
  | (go_at_call 108; refine (Minus_any n aob kb capb y _ (HB.out.kept (K3 _ _ _).drew) (by omega)).mono ?_; rintro e w1 ⟨hk,s1,a1,c1,rfl,hN1⟩; obtain ⟨hA0,hA1,hB0,hB1,hR0,hR1⟩:=box_kept3 (((Kept.refl _).drew).trans hk))
  | (go_at_call 70; refine (Plus_any m s1 aoa a1 ka kb capa c1 x (-y) _ (HA.out.kept ((K3 _ _ _).drew.trans hk)) hN1 hla hlb).mono ?_; rintro e w2 ⟨hk2,s2,a2,k2,c2,rfl,hN2,hl2⟩; obtain ⟨gA0,gA1,gB0,gB1,gR0,gR1⟩:=box_kept3 ((((Kept.refl _).drew).trans hk).trans hk2); have hf:=((((Kept.refl _).drew).trans hk).trans hk2).frozens))
 have HK:Hid (Kept w w2):=(((K3 _ _ _).drew).trans hk).trans hk2
 have HN:Hid (NIs w2 s2 (.slice a2 k2 c2) (x - y)∧k2≤max ka kb + 1):=⟨by rw [Int.sub_eq_add_neg]; exact hN2,hl2⟩
 clear hk hk2 hN1 hN2 hl2 K3 hA0 hA1 hB0 hB1 hR0 hR1
 go_wp2
 obtain ⟨l,hs,hr⟩:=HN.out.1
 exact bodyPost_ret (v:=.agg #[.bool s2,.slice a2 k2 c2]) (by simp [results,Tryz.results109,go_sem,gR0,gR1]) rfl ⟨(HK.out.setCell (by simp; omega) _).setCell (by simp; omega) _,s2,a2,k2,c2,rfl,⟨l,hs.box gR0 gR1 _ _,hr⟩,HN.out.2⟩
theorem sign_of {w:World} {m:Bool} {ao:Option Addr} {k cap:Nat} {z:Int} (h:NIs w m (.slice ao k cap) z):isgn z 0 = if k = 0 then 0 else if m then -1 else 1:=by
 obtain ⟨l,hs,hr,rfl⟩:=h
 have e:=hs.len
 subst e
 by_cases h0:l.length = 0
 ·
  rw [if_pos h0,int_zero h0]; rfl
 ·
  have hp:=D.val_pos hr.tr (fun e => h0 (by rw [e]; rfl))
  rw [if_neg h0]
  unfold isgn int
  cases m <;> simp <;> omega
set_option maxHeartbeats 1000000 in
theorem Sign_any (m:Bool) (ao:Option Addr) (k cap:Nat) (z:Int) (w:World) (h:NIs w m (.slice ao k cap) z) (_hk:k≤1000000) :
  Calls Tryz.prog 73 #[.agg #[.bool m,.slice ao k cap]] w fun e w' => e = .returned (.int .i64 (isgn z 0))∧Kept w w':=by
 rw [sign_of h]
 clear h
 by_cases h0:k = 0
 ·
  rw [if_pos h0]
  have hb:((k:Int) == 0) = true:=beq_iff_eq.2 (by omega)
  clear h0
  go_enter Tryz.func73,Tryz.ntmps73
  go_wp2
  go_ret
  exact ⟨rfl,(Kept.refl w).alloc _⟩
 ·
  rw [if_neg h0]
  have hb:((k:Int) == 0) = false:=beq_eq_false_iff_ne.2 (by omega)
  clear h0
  cases m
  all_goals
   go_enter Tryz.func73,Tryz.ntmps73
   go_wp2
   go_ret
   exact ⟨rfl,(Kept.refl w).alloc _⟩
theorem isgn_sub (x y:Int):isgn (x - y) 0 = isgn x y:=by
 unfold isgn
 by_cases h1:x < y
 ·
  rw [if_pos h1,if_pos (by omega)]
 ·
  rw [if_neg h1,if_neg (by omega)]
  by_cases h2:x = y
  ·
   rw [if_pos h2,if_pos (by omega)]
  ·
   rw [if_neg h2,if_neg (by omega)]
set_option maxHeartbeats 1000000 in
theorem Held_any (m n:Bool) (aoa aob:Option Addr) (ka kb capa capb:Nat) (x y:Int) (w:World) (ha:NIs w m (.slice aoa ka capa) x) (hb:NIs w n (.slice aob kb capb) y) (hla:ka≤5000) (hlb:kb≤5000) :
  Calls Tryz.prog 77 #[.agg #[.bool m,.slice aoa ka capa],.agg #[.bool n,.slice aob kb capb]] w fun e w' => e = .returned (.int .i64 (isgn x y))∧Kept w w':=by
 have HA:Hid (NIs w m (.slice aoa ka capa) x):=ha
 have HB:Hid (NIs w n (.slice aob kb capb) y):=hb
 have K2:∀ x y,Kept w ((w.alloc x).alloc y):=fun x y => ((Kept.refl w).alloc x).alloc y
 clear ha hb
 go_enter Tryz.func77,Tryz.ntmps77
 go_wp2_with fail
 refine (Less_any m n aoa aob ka kb capa capb x y _ (HA.out.kept (K2 _ _)) (HB.out.kept (K2 _ _)) hla hlb).mono ?_
 rintro e w1 ⟨hk,s1,a1,k1,c1,rfl,hN1,hl1⟩
 have HN:Hid (NIs w1 s1 (.slice a1 k1 c1) (x - y)∧Kept w w1):=⟨hN1,(K2 _ _).trans hk⟩
 clear hk hN1 K2
 go_wp2_with fail
 refine (Sign_any s1 a1 k1 c1 (x - y) _ HN.out.1 (by omega)).mono ?_
 rintro e w2 ⟨rfl,hk2⟩
 rw [isgn_sub]
 have HK:Hid (Kept w w2):=HN.out.2.trans hk2
 clear hk2
 go_wp2
 go_ret
 exact ⟨rfl,HK.out⟩
end D
end Go.Proofs.YtfddbkhfokeioaaGreatDoor
