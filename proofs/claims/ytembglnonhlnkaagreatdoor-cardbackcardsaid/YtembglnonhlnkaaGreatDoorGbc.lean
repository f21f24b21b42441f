/- shuntref07.Same of two that are the same. shuntlaw07.awake. CardBack's walk. -/
import Derived.Test.YtembglnonhlnkaaGreatDoorGba
import Derived.Test.YtembglnonhlnkaaGreatDoorGas
import Derived.Test.YtembglnonhlnkaaGreatDoorGaz
import Derived.Test.YtembglnonhlnkaaGreatDoorGbb
namespace Go.Proofs.YtembglnonhlnkaaGreatDoor
open Go.RowKit
namespace V
open Q (hid' parseOf Lett ErrV Tab okN textOf)
open X (bs OwnS RS strs bs_list bs_size)
set_option maxRecDepth 100000 in
set_option maxHeartbeats 8000000 in
theorem same7_any (a1 a2 a3 b1 b2 b3:Option Addr) (n1 k1 n2 k2 n3 k3 l1 l2 l3:Nat) (c:Cd) (w:World) (hc:CdR w a1 n1 k1 a2 n2 k2 a3 n3 k3 c) (hd:CdR w b1 n1 l1 b2 n2 l2 b3 n3 l3 c) (h1:n1≤1000000) (h2:n2≤9223372036854775807) (h3:n3≤9223372036854775807) :
  Calls Tryz.prog 13 #[cdV c (.slice a1 n1 k1) (.slice a2 n2 k2) (.slice a3 n3 k3),cdV c (.slice b1 n1 l1) (.slice b2 n2 l2) (.slice b3 n3 l3)] w fun e w' => Kept w w'∧e = .returned (.bool true):=by
 obtain ⟨cn,cnd,cr,⟨cm,cx⟩,ckd,cvs,css⟩:=c
 unfold cdV
 simp only
 have HC:=hid' (And.intro hc hd)
 have HLN:=hid' (show cnd.length≤1000000000000000000 by have h:n1 = cnd.length:=rs_len hc.nodes; omega)
 generalize bs cn = s1
 generalize bs cr = s3
 clear hc hd
 go_enter Tryz.func13,Tryz.ntmps13
 go_upto_region 1 with fail
 have hK:=((Kept.refl w).alloc (.cells #[.string s1,.slice a1 n1 k1,.string s3,.int .i64 cm,.int .i64 cx,.int .i64 ckd,.slice a2 n2 k2,.slice a3 n3 k3] 32)).alloc (.cells #[.string s1,.slice b1 n1 l1,.string s3,.int .i64 cm,.int .i64 cx,.int .i64 ckd,.slice b2 n2 l2,.slice b3 n3 l3] 32)
 have hA:=(RowL.alloc 32 w [.string s1,.slice a1 n1 k1,.string s3,.int .i64 cm,.int .i64 cx,.int .i64 ckd,.slice a2 n2 k2,.slice a3 n3 k3]).kept ((Kept.refl _).alloc (.cells #[.string s1,.slice b1 n1 l1,.string s3,.int .i64 cm,.int .i64 cx,.int .i64 ckd,.slice b2 n2 l2,.slice b3 n3 l3] 32))
 have hB:=RowL.alloc 32 (w.alloc (.cells #[.string s1,.slice a1 n1 k1,.string s3,.int .i64 cm,.int .i64 cx,.int .i64 ckd,.slice a2 n2 k2,.slice a3 n3 k3] 32)) [.string s1,.slice b1 n1 l1,.string s3,.int .i64 cm,.int .i64 cx,.int .i64 ckd,.slice b2 n2 l2,.slice b3 n3 l3]
 rw [World.size_alloc] at hB
 generalize (w.alloc (.cells #[.string s1,.slice a1 n1 k1,.string s3,.int .i64 cm,.int .i64 cx,.int .i64 ckd,.slice a2 n2 k2,.slice a3 n3 k3] 32)).alloc (.cells #[.string s1,.slice b1 n1 l1,.string s3,.int .i64 cm,.int .i64 cx,.int .i64 ckd,.slice b2 n2 l2,.slice b3 n3 l3] 32) = W0 at hK hA hB ⊢
 obtain ⟨q,hq⟩:∃ q,q = w.heap.size + 1:=⟨_,rfl⟩
 rw [← hq] at hB ⊢
 obtain ⟨p,hp⟩:∃ q,q = w.heap.size:=⟨_,rfl⟩
 rw [← hp] at hA ⊢
 have HW:=hid' (And.intro hK (And.intro hA hB))
 clear hK hA hB hq hp
 have f0:=HW.out.2.1.cell 0 (.string s1)
 have f1:=HW.out.2.1.cell 1 (.slice a1 n1 k1)
 have f2:=HW.out.2.1.cell 2 (.string s3)
 have f3:=HW.out.2.1.cell 3 (.int .i64 cm)
 have f4:=HW.out.2.1.cell 4 (.int .i64 cx)
 have f5:=HW.out.2.1.cell 5 (.int .i64 ckd)
 have f6:=HW.out.2.1.cell 6 (.slice a2 n2 k2)
 have f7:=HW.out.2.1.cell 7 (.slice a3 n3 k3)
 have g0:=HW.out.2.2.cell 0 (.string s1)
 have g1:=HW.out.2.2.cell 1 (.slice b1 n1 l1)
 have g2:=HW.out.2.2.cell 2 (.string s3)
 have g3:=HW.out.2.2.cell 3 (.int .i64 cm)
 have g4:=HW.out.2.2.cell 4 (.int .i64 cx)
 have g5:=HW.out.2.2.cell 5 (.int .i64 ckd)
 have g6:=HW.out.2.2.cell 6 (.slice b2 n2 l2)
 have g7:=HW.out.2.2.cell 7 (.slice b3 n3 l3)
 go_wp2_with fail
 refine (X.texts_any _ _ cnd cnd _ (HC.out.1.nodes.kept HW.out.1) (HC.out.2.nodes.kept HW.out.1) HLN.out).mono ?_
 rintro e w1 ⟨hk,rfl⟩
 rw [decide_eq_true (rfl:cnd = cnd)]
 have HW:=hid' (And.intro (HW.out.1.trans hk) (And.intro (HW.out.2.1.kept hk) (HW.out.2.2.kept hk)))
 clear f0 f1 f2 f3 f4 f5 f6 f7 g0 g1 g2 g3 g4 g5 g6 g7 hk
 have f0:=HW.out.2.1.cell 0 (.string s1)
 have f1:=HW.out.2.1.cell 1 (.slice a1 n1 k1)
 have f2:=HW.out.2.1.cell 2 (.string s3)
 have f3:=HW.out.2.1.cell 3 (.int .i64 cm)
 have f4:=HW.out.2.1.cell 4 (.int .i64 cx)
 have f5:=HW.out.2.1.cell 5 (.int .i64 ckd)
 have f6:=HW.out.2.1.cell 6 (.slice a2 n2 k2)
 have f7:=HW.out.2.1.cell 7 (.slice a3 n3 k3)
 have g0:=HW.out.2.2.cell 0 (.string s1)
 have g1:=HW.out.2.2.cell 1 (.slice b1 n1 l1)
 have g2:=HW.out.2.2.cell 2 (.string s3)
 have g3:=HW.out.2.2.cell 3 (.int .i64 cm)
 have g4:=HW.out.2.2.cell 4 (.int .i64 cx)
 have g5:=HW.out.2.2.cell 5 (.int .i64 ckd)
 have g6:=HW.out.2.2.cell 6 (.slice b2 n2 l2)
 have g7:=HW.out.2.2.cell 7 (.slice b3 n3 l3)
 go_wp2_with fail
 refine (same4_any ckd a2 a3 b2 b3 n2 k2 n3 k3 l2 l3 cvs css _ (HC.out.1.vals.kept HW.out.1) (HC.out.1.steps.kept HW.out.1) (HC.out.2.vals.kept HW.out.1) (HC.out.2.steps.kept HW.out.1) h2 h3).mono ?_
 rintro e w2 ⟨hk,rfl⟩
 have HK:=hid' (HW.out.1.trans hk)
 clear hk f0 f1 f2 f3 f4 f5 f6 f7 g0 g1 g2 g3 g4 g5 g6 g7
 go_wp2_with fail
 go_ret
 exact ⟨HK.out,rfl⟩
end V
end Go.Proofs.YtembglnonhlnkaaGreatDoor

namespace Go.Proofs.YtembglnonhlnkaaGreatDoor
open Go.RowKit
namespace V
open Q (hid' parseOf Lett ErrV Tab okN textOf)
open X (bs OwnS RS strs bs_list bs_size)
theorem rs_lit (w:World) (ws:List (List UInt8)) (n:Nat) (hn:n = ws.length):RS (w.alloc (.cells (strs ws).toArray 9)) (.slice (some ⟨w.heap.size,0,none⟩) n n) ws:=by
 subst hn
 refine ⟨_,_,rfl,fun _ => ⟨w.heap.size,0,rfl,by simp,fun j hj => ?_⟩⟩
 have hr:=World.rowIs_alloc w (strs ws).toArray 9 (fun i => .string (bs (ws.getD i []))) (fun i hi => by
  have hi':i < ws.length:=by simpa [strs] using hi
  have:=X.strs_at ws i hi'
  simpa using this)
 rw [Nat.zero_add]
 exact hr.cell (by simpa [strs] using hj)
def awW:List (List UInt8):=[[114,49],[97],[48],[52,46,55,107]]
def awC:Cd:=⟨[114,49],[[97],[48]],[],(47,2),0,[],[]⟩
def awT:List (List UInt8):=[[114,49],[97],[48],[52,55,48,48]]
def awM:List (List UInt8):=[[46,109,111,100,101,108],[100,49],[100],[49,117],[48,46,55],[49,48,48,109]]
def awD:Md:=⟨[100,49],100,[(1,-6),(1,-1)],[(7,-1)]⟩
theorem aw1:readC awW = .ok awC:=by kernel_rfl
theorem aw2:writeC awC = some awT:=by kernel_rfl
theorem aw3:readM awM = .ok awD:=by kernel_rfl
theorem aw4:cwords awC = awT:=by kernel_rfl
set_option maxRecDepth 100000 in
set_option maxHeartbeats 8000000 in
theorem awake7_any (w:World) (hL:Lett w) (hE:ErrV w) (hT:Tab w):Calls Tryz.prog 9 #[] w fun e w' => Kept w w'∧e = .returned (.bool true):=by
 have HG:=hid' (And.intro hL (And.intro hE hT))
 clear hL hE hT
 go_enter Tryz.func9,Tryz.ntmps9
 go_wp2_with fail
 have hk0:=(Kept.refl w).alloc (.cells (strs awW).toArray 9)
 have hrs:=rs_lit w awW 4 rfl
 have hrd:=readC_any (some ⟨w.heap.size,0,none⟩) 4 4 awW _ (HG.out.1.kept hk0) (HG.out.2.1.kept hk0) hrs (Nat.le_refl _) (by omega) (by decide)
 rw [aw1] at hrd
 refine hrd.mono ?_
 rintro e w1 ⟨hk1,hres⟩
 obtain ⟨v,rfl,nv,xv,sv,rfl,o1,o2,o3⟩:=hres
 have HK:=hid' (hk0.trans hk1)
 clear hk0 hk1 hrs hrd
 obtain ⟨b1,l1,rfl⟩:=own_shape o1
 obtain ⟨b2,l2,rfl⟩:=own_shape o2
 obtain ⟨b3,l3,rfl⟩:=own_shape o3
 have HO:=hid' (show CdR w1 b1 2 l1 b2 0 l2 b3 0 l3 awC from ⟨X.OwnS.rs o1,OwnN.nsl o2,OwnI.isl o3⟩)
 clear o1 o2 o3
 have e1:cdV awC (.slice b1 awC.nodes.length l1) (.slice b2 awC.vals.length l2) (.slice b3 awC.steps.length l3) = .agg #[.string ⟨#[114,49]⟩,.slice b1 2 l1,.string ⟨#[]⟩,.int .i64 47,.int .i64 2,.int .i64 0,.slice b2 0 l2,.slice b3 0 l3]:=rfl
 rw [e1]
 clear e1
 go_wp2_with fail
 have hk2:=(Kept.refl w1).alloc (.cells #[.string ⟨#[114,49]⟩,.slice b1 2 l1,.string ⟨#[]⟩,.int .i64 47,.int .i64 2,.int .i64 0,.slice b2 0 l2,.slice b3 0 l3] 32)
 have hC:=RowL.alloc 32 w1 [.string ⟨#[114,49]⟩,.slice b1 2 l1,.string ⟨#[]⟩,.int .i64 47,.int .i64 2,.int .i64 0,.slice b2 0 l2,.slice b3 0 l3]
 have hwr:=write_plain b1 b2 b3 2 l1 0 l2 0 l3 awC _ (HG.out.1.kept (HK.out.trans hk2)) (HG.out.2.1.kept (HK.out.trans hk2)) (HG.out.2.2.kept (HK.out.trans hk2)) (HO.out.kept hk2) (by omega) (by decide) (by rw [aw4]; decide) (by decide)
 rw [aw2] at hwr
 have e2:cdV awC (.slice b1 2 l1) (.slice b2 0 l2) (.slice b3 0 l3) = .agg #[.string ⟨#[114,49]⟩,.slice b1 2 l1,.string ⟨#[]⟩,.int .i64 47,.int .i64 2,.int .i64 0,.slice b2 0 l2,.slice b3 0 l3]:=rfl
 rw [e2] at hwr
 generalize w1.alloc (.cells #[.string ⟨#[114,49]⟩,.slice b1 2 l1,.string ⟨#[]⟩,.int .i64 47,.int .i64 2,.int .i64 0,.slice b2 0 l2,.slice b3 0 l3] 32) = W1 at hk2 hC hwr ⊢
 obtain ⟨p,hp⟩:∃ q,q = w1.heap.size:=⟨_,rfl⟩
 rw [← hp] at hC ⊢
 refine hwr.mono ?_
 rintro e w2 ⟨hk3,u,rfl,ou⟩
 obtain ⟨ao,cap,rfl,_,_⟩:=own_cap ou
 have HW:=hid' (And.intro (HK.out.trans (hk2.trans hk3)) (And.intro (hC.kept hk3) (X.OwnS.rs ou)))
 clear hk2 hC hwr hk3 ou e2 hp HK
 go_wp2_with fail
 have hk0:=(Kept.refl w2).alloc (.cells (strs awM).toArray 9)
 have hrs:=rs_lit w2 awM 6 rfl
 have hrm:=readM_any (some ⟨w2.heap.size,0,none⟩) 6 6 awM _ (HG.out.1.kept (HW.out.1.trans hk0)) (HG.out.2.1.kept (HW.out.1.trans hk0)) hrs (by omega) (by decide)
 rw [aw3] at hrm
 refine hrm.mono ?_
 rintro e w3 ⟨hk4,v,rfl,gv,vv,rfl,o1,o2⟩
 obtain ⟨b4,l4,rfl⟩:=own_shape o1
 obtain ⟨b5,l5,rfl⟩:=own_shape o2
 have e3:(Value.agg #[.string (bs awD.name),.int .u8 awD.kind,.slice b4 awD.gs.length l4,.slice b5 awD.vs.length l5]) = .agg #[.string ⟨#[100,49]⟩,.int .u8 100,.slice b4 2 l4,.slice b5 1 l5]:=rfl
 rw [e3]
 have HW:=hid' (And.intro (HW.out.1.trans (hk0.trans hk4)) (And.intro (HW.out.2.1.kept (hk0.trans hk4)) (HW.out.2.2.kept (hk0.trans hk4))))
 have kM:=(Kept.refl w3).alloc (.cells #[.string ⟨#[100,49]⟩,.int .u8 100,.slice b4 2 l4,.slice b5 1 l5] 43)
 have hCm:=HW.out.2.1.kept kM
 have c3:=hCm.cell 3 (.int .i64 47)
 have c4:=hCm.cell 4 (.int .i64 2)
 clear hk0 hrs hrm hk4 o1 o2 e3 hCm
 go_wp2_with fail
 have hM:=Row4.alloc 43 w3 (.string ⟨#[100,49]⟩) (.int .u8 100) (.slice b4 2 l4) (.slice b5 1 l5)
 have hsz:(w3.alloc (.cells #[.string ⟨#[100,49]⟩,.int .u8 100,.slice b4 2 l4,.slice b5 1 l5] 43)).heap.size = w3.heap.size + 1:=by rw [World.size_alloc]
 generalize w3.alloc (.cells #[.string ⟨#[100,49]⟩,.int .u8 100,.slice b4 2 l4,.slice b5 1 l5] 43) = W4 at kM hM c3 c4 hsz ⊢
 rw [← hsz]
 obtain ⟨mb,hmb⟩:∃ q,q = w3.heap.size:=⟨_,rfl⟩
 rw [← hmb] at hM ⊢
 have hk5:=(Kept.refl W4).alloc (.cells (strs awT).toArray 9)
 have hrs:=rs_lit W4 awT 4 rfl
 have htx:=X.texts_any _ _ awT awT _ (HW.out.2.2.kept (kM.trans hk5)) hrs (by decide)
 rw [decide_eq_true (rfl:awT = awT)] at htx
 refine htx.mono ?_
 rintro e w4 ⟨hk6,rfl⟩
 have hM4:=hM.kept (hk5.trans hk6)
 have m1:=hM4.c1
 have m2:=hM4.c2
 have HK:=hid' (HW.out.1.trans (kM.trans (hk5.trans hk6)))
 clear kM hM hsz hmb hk5 hrs htx hk6 hM4 c3 c4
 go_wp2_with fail
 go_ret
 exact ⟨HK.out,rfl⟩
end V
end Go.Proofs.YtembglnonhlnkaaGreatDoor

namespace Go.Proofs.YtembglnonhlnkaaGreatDoor
open Go.RowKit
namespace V
open Q (hid' parseOf Lett ErrV Tab okN textOf)
open X (bs OwnS RS strs bs_list bs_size)
theorem nsl_none (w:World):NSl w (.slice none 0 0) []:=⟨none,0,rfl,fun h => absurd h (by decide)⟩
theorem tx_sz2 (p:Int × Int):(tx p).length≤9223372036854775807:=by
 unfold tx
 split
 ·
  rename_i h; have:=(Q.back h).2; omega
 ·
  simp
theorem itoa_sz {s:Int} (h0:0≤s) (h1:s≤1000000000):(Lib.itoa s).length≤9223372036854775807:=by
 rw [Q.itoa_sg,decide_eq_false (by omega)]
 have:(Lib.decDigits s.natAbs).length≤10:=Q.dec_len (by decide) (Nat.lt_of_le_of_lt (show s.natAbs≤1000000000 by omega) (by decide))
 show ([] ++ Lib.decDigits s.natAbs).length≤_
 rw [List.nil_append]
 omega
theorem pwlW_sz:∀ (vs:List (Int × Int)) (ss:List Int),(∀ s ∈ ss,0≤s∧s≤1000000000)→∀ x ∈ pwlW vs ss,x.length≤9223372036854775807
 | [],_,_,x,hx => by simp [pwlW] at hx
 | _ :: _,[],_,x,hx => by simp [pwlW] at hx
 | v :: vs,s :: ss,h,x,hx => by
  rw [pwlW] at hx
  simp only [List.mem_cons] at hx
  rcases hx with rfl | rfl | hx
  ·
   exact itoa_sz (h s (by simp)).1 (h s (by simp)).2
  ·
   exact tx_sz2 v
  ·
   exact pwlW_sz vs ss (fun y hy => h y (by simp [hy])) x hx
theorem obo_sz {vs:List (Int × Int)} {ss:List Int} (h:∀ s ∈ ss,0≤s∧s≤1000000000):∀ x ∈ obo vs ss,x.length≤9223372036854775807:=by
 intro x hx
 unfold obo at hx
 rcases List.mem_append.1 hx with hx | hx
 ·
  obtain ⟨v,_,rfl⟩:=List.mem_map.1 hx; exact tx_sz2 v
 ·
  obtain ⟨s,hs,rfl⟩:=List.mem_map.1 hx; exact itoa_sz (h s hs).1 (h s hs).2
theorem cwords_sz {c:Cd} (h1:c.name.length≤9223372036854775807) (h2:c.ref.length≤9223372036854775807) (h3:∀ x ∈ c.nodes,x.length≤9223372036854775807):∀ x ∈ cwords c,x.length≤9223372036854775807:=by
 intro x hx
 unfold cwords at hx
 rcases List.mem_append.1 hx with hx | hx
 ·
  rcases List.mem_append.1 hx with hx | hx
  ·
   rcases List.mem_append.1 hx with hx | hx
   ·
    rcases List.mem_append.1 hx with hx | hx
    ·
     rw [List.mem_singleton] at hx; subst hx; exact h1
    ·
     exact h3 x hx
   ·
    split at hx
    ·
     rw [List.mem_singleton] at hx; subst hx; exact h2
    ·
     simp at hx
  ·
   split at hx
   ·
    rw [List.mem_singleton] at hx; subst hx; exact tx_sz2 _
   ·
    simp at hx
 ·
  split at hx
  ·
   unfold wwords at hx
   split at hx
   ·
    simp at hx
   ·
    rename_i hw
    have hs:=(okW_fit (show okW c.kind c.vals c.steps = true by simpa using hw)).2.2
    split at hx
    ·
     rcases List.mem_cons.1 hx with rfl | hx
     ·
      decide
     ·
      exact obo_sz hs x hx
    split at hx
    ·
     rcases List.mem_cons.1 hx with rfl | hx
     ·
      decide
     ·
      exact pwlW_sz _ _ hs x hx
    split at hx
    ·
     rcases List.mem_cons.1 hx with rfl | hx
     ·
      decide
     ·
      exact obo_sz hs x hx
    ·
     rcases List.mem_cons.1 hx with rfl | hx
     ·
      decide
     ·
      exact obo_sz hs x hx
  ·
   simp at hx
theorem name_le {x:List UInt8} (h:okName x = true):x.length≤16:=by
 unfold okName at h
 have:=of_decide_eq_true (Bool.and_eq_true _ _ ▸ h).1
 omega
theorem right_lens {c:Cd} (h:RightC c):c.nodes.length≤8∧c.vals.length≤16∧c.steps.length≤16∧c.name.length≤9223372036854775807∧c.ref.length≤9223372036854775807∧∀ x ∈ c.nodes,x.length≤9223372036854775807:=by
 have h1:=h.cnt
 have h2:=h.wav
 have h3:=h.ref
 have h4:=name_le (dev_name h.dev)
 refine ⟨?_,?_,?_,by omega,?_,fun x hx => by have:=name_le (h.nds x hx); omega⟩
 ·
  unfold nodesN at h1
  split at h1
  ·
   have:=of_decide_eq_true h1; omega
  split at h1
  ·
   have:=of_decide_eq_true h1; omega
  ·
   have:=of_decide_eq_true h1; omega
 ·
  split at h2
  ·
   have:=(okW_fit h2).1; omega
  ·
   rw [h2.2.1]; simp
 ·
  split at h2
  ·
   have:=(okW_fit h2).1; omega
  ·
   rw [h2.2.2]; simp
 ·
  split at h3
  ·
   have:=name_le h3.1; omega
  ·
   rw [h3]; simp
theorem same7_zero (w:World):Calls Tryz.prog 13 #[.agg #[.string ⟨#[]⟩,.slice none 0 0,.string ⟨#[]⟩,.int .i64 0,.int .i64 0,.int .i64 0,.slice none 0 0,.slice none 0 0],.agg #[.string ⟨#[]⟩,.slice none 0 0,.string ⟨#[]⟩,.int .i64 0,.int .i64 0,.int .i64 0,.slice none 0 0,.slice none 0 0]] w fun e w' => Kept w w'∧e = .returned (.bool true) :=
 have hz:CdR w none 0 0 none 0 0 none 0 0 Cd.zero:=⟨⟨none,0,rfl,fun h => absurd h (by decide)⟩,nsl_none w,⟨none,0,rfl,fun h => absurd h (by decide)⟩⟩
 same7_any none none none none none none 0 0 0 0 0 0 0 0 0 Cd.zero w hz hz (by omega) (by omega) (by omega)
set_option maxRecDepth 100000 in
set_option maxHeartbeats 16000000 in
theorem back7_any (a1 a2 a3:Option Addr) (n1 k1 n2 k2 n3 k3:Nat) (c:Cd) (ao:Option Addr) (nw cw:Nat) (ws:List (List UInt8)) (w:World) (hL:Lett w) (hE:ErrV w) (hT:Tab w) (hc:CdR w a1 n1 k1 a2 n2 k2 a3 n3 k3 c) (hs:c.name.length≤9223372036854775807) (hrs:c.ref.length≤9223372036854775807) (hnd:∀ x ∈ c.nodes,x.length≤9223372036854775807) (hl:(n1 + 256) * 16≤140737488355328) (hl2:n2≤1000000000000000000) (hl3:n3≤1000000000000000000) (h3:RS w (.slice ao nw cw) ws) (hcw:nw≤cw) (hcm:cw≤9223372036854775807) (hws:∀ x ∈ ws,x.length≤9223372036854775807) :
  Calls Tryz.prog 6 #[cdV c (.slice a1 n1 k1) (.slice a2 n2 k2) (.slice a3 n3 k3),.slice ao nw cw] w fun e w' => Kept w w'∧e = .returned (.bool true):=by
 have HG:=hid' (And.intro hL (And.intro hE hT))
 have HW:=hid' (And.intro h3 hcw)
 have HRD:=hid' (fun V (K:Kept w V) => readC_any ao nw cw ws V (hL.kept K) (hE.kept K) (h3.kept K) hcw hcm hws)
 have hwr:=fun V (K:Kept w V) => write_any a1 a2 a3 n1 k1 n2 k2 n3 k3 c V (hL.kept K) (hE.kept K) (hT.kept K) (hc.kept K) (by omega) (cwords_sz hs hrs hnd) hs
 have hri:=fun V (K:Kept w V) => right_any a1 a2 a3 n1 k1 n2 k2 n3 k3 c V (hc.kept K) hs hrs hnd ⟨by omega,hl2,hl3⟩
 have e1:n1 = c.nodes.length:=rs_len hc.nodes
 have e2:n2 = c.vals.length:=hc.vals.len
 have e3:n3 = c.steps.length:=hc.steps.len
 cases hb:rightB c with
 | false =>
  have hnone:writeC c = none:=by
   cases hq:writeC c with
   | none => rfl
   | some l =>
    have:=(right_iff c).2 (write_right hq).1
    rw [hb] at this
    cases this
  rw [hnone] at hwr
  rw [hb] at hri
  obtain ⟨cn,cnd,cr,⟨cm,cx⟩,ckd,cvs,css⟩:=c
  unfold cdV at hwr hri ⊢
  simp only at hwr hri ⊢
  generalize bs cn = s1 at hwr hri ⊢
  generalize bs cr = s3 at hwr hri ⊢
  have HWR:=hid' hwr
  have HRI:=hid' hri
  clear hwr hri e1 e2 e3 hb hnone hL hE hT hc hs hrs hnd h3 hcw hcm hws
  go_enter Tryz.func6,Tryz.ntmps6
  go_wp2_with fail
  have hK:=(Kept.refl w).alloc (.cells #[.string s1,.slice a1 n1 k1,.string s3,.int .i64 cm,.int .i64 cx,.int .i64 ckd,.slice a2 n2 k2,.slice a3 n3 k3] 32)
  have hA:=RowL.alloc 32 w [.string s1,.slice a1 n1 k1,.string s3,.int .i64 cm,.int .i64 cx,.int .i64 ckd,.slice a2 n2 k2,.slice a3 n3 k3]
  generalize w.alloc (.cells #[.string s1,.slice a1 n1 k1,.string s3,.int .i64 cm,.int .i64 cx,.int .i64 ckd,.slice a2 n2 k2,.slice a3 n3 k3] 32) = W0 at hK hA ⊢
  obtain ⟨p,hp⟩:∃ q,q = w.heap.size:=⟨_,rfl⟩
  rw [← hp] at hA ⊢
  clear hp
  refine (awake7_any _ (HG.out.1.kept hK) (HG.out.2.1.kept hK) (HG.out.2.2.kept hK)).mono ?_
  rintro e w1 ⟨hk1,rfl⟩
  have HK:=hid' (hK.trans hk1)
  have HA:=hid' (hA.kept hk1)
  have f0:=HA.out.cell 0 (.string s1)
  have f1:=HA.out.cell 1 (.slice a1 n1 k1)
  have f2:=HA.out.cell 2 (.string s3)
  have f3:=HA.out.cell 3 (.int .i64 cm)
  have f4:=HA.out.cell 4 (.int .i64 cx)
  have f5:=HA.out.cell 5 (.int .i64 ckd)
  have f6:=HA.out.cell 6 (.slice a2 n2 k2)
  have f7:=HA.out.cell 7 (.slice a3 n3 k3)
  clear hK hA hk1
  go_wp2_with fail
  refine (HWR.out _ HK.out).mono ?_
  rintro e w2 ⟨hk2,rfl⟩
  have HK:=hid' (HK.out.trans hk2)
  have HA:=hid' (HA.out.kept hk2)
  clear f0 f1 f2 f3 f4 f5 f6 f7 hk2
  have f0:=HA.out.cell 0 (.string s1)
  have f1:=HA.out.cell 1 (.slice a1 n1 k1)
  have f2:=HA.out.cell 2 (.string s3)
  have f3:=HA.out.cell 3 (.int .i64 cm)
  have f4:=HA.out.cell 4 (.int .i64 cx)
  have f5:=HA.out.cell 5 (.int .i64 ckd)
  have f6:=HA.out.cell 6 (.slice a2 n2 k2)
  have f7:=HA.out.cell 7 (.slice a3 n3 k3)
  go_wp2_with fail
  refine (HRI.out _ HK.out).mono ?_
  rintro e w3 ⟨hk3,rfl⟩
  have HK:=hid' (HK.out.trans hk3)
  clear f0 f1 f2 f3 f4 f5 f6 f7 hk3 HWR HRI HA
  go_wp2_with fail
  have hrm:=HRD.out _ HK.out
  cases hrr:readC ws with
  | error x =>
   rw [hrr] at hrm
   refine hrm.mono ?_
   rintro e wr ⟨hk1,rfl,hx0⟩
   have hx0':(x == 0) = false:=by simpa using hx0
   have HKr:=hid' (HK.out.trans hk1)
   clear hrm hk1
   unfold zeroCd
   go_wp2_with fail
   refine (same7_zero _).mono ?_
   rintro e wz ⟨hk2,rfl⟩
   have HKz:=hid' ((HKr.out.alloc _).trans hk2)
   clear hk2
   go_wp2_with fail
   go_ret
   exact ⟨HKz.out,rfl⟩
  | ok d =>
   rw [hrr] at hrm
   have HB:=hid' (And.intro (read_back hrr) (And.intro (right_lens (read_back hrr).1) (read_right hrr).2.2))
   refine hrm.mono ?_
   rintro e wr ⟨hk1,v,rfl,nv,xv,sv,rfl,o1,o2,o3⟩
   obtain ⟨b1,l1,rfl⟩:=own_shape o1
   obtain ⟨b2,l2,rfl⟩:=own_shape o2
   obtain ⟨b3,l3,rfl⟩:=own_shape o3
   have hcd:CdR wr b1 d.nodes.length l1 b2 d.vals.length l2 b3 d.steps.length l3 d:=⟨X.OwnS.rs o1,OwnN.nsl o2,OwnI.isl o3⟩
   obtain ⟨hq1,hq2,hq3,hq4,hq5,hq6⟩:=HB.out.2.1
   have hKr:=HK.out.trans hk1
   have hwm:=fun V (K:Kept wr V) => write_any b1 b2 b3 d.nodes.length l1 d.vals.length l2 d.steps.length l3 d V (HG.out.1.kept (hKr.trans K)) (HG.out.2.1.kept (hKr.trans K)) (HG.out.2.2.kept (hKr.trans K)) (hcd.kept K) (by omega) (cwords_sz hq4 hq5 hq6) hq4
   have hsm:=fun V (K:Kept wr V) e1 e2 e3 m1 m2 m3 (hd:CdR V e1 d.nodes.length m1 e2 d.vals.length m2 e3 d.steps.length m3 d) => same7_any e1 e2 e3 b1 b2 b3 d.nodes.length m1 d.vals.length m2 d.steps.length m3 l1 l2 l3 d V hd (hcd.kept K) (by omega) (by omega) (by omega)
   rw [HB.out.1.2.1] at hwm
   have hre:=fun V (K:Kept wr V) ul cl (hr:RS V (.slice ul (cwords d).length cl) (cwords d)) (hc1:(cwords d).length≤cl) (hc2:cl≤9223372036854775807) => readC_any ul (cwords d).length cl (cwords d) V (HG.out.1.kept (hKr.trans K)) (HG.out.2.1.kept (hKr.trans K)) hr hc1 hc2 (cwords_sz hq4 hq5 hq6)
   rw [HB.out.1.2.2.1] at hre
   have HHD:=hid' (And.intro HB.out.1.2.2.2 (And.intro (cwords_head d).2 HB.out.2.2))
   obtain ⟨cwl,hcwl⟩:∃ l,l = cwords d:=⟨_,rfl⟩
   rw [← hcwl] at hwm hre HHD
   obtain ⟨dnm,dnd,dr,⟨dm,dx⟩,dkd,dvs,dss⟩:=d
   unfold cdV at hwm hsm ⊢
   simp only at hwm hsm ⊢
   obtain ⟨t1,ht1⟩:∃ t,t = bs dnm:=⟨_,rfl⟩
   obtain ⟨t3,ht3⟩:∃ t,t = bs dr:=⟨_,rfl⟩
   obtain ⟨d1,hd1⟩:∃ t,t = dnd.length:=⟨_,rfl⟩
   obtain ⟨d2,hd2⟩:∃ t,t = dvs.length:=⟨_,rfl⟩
   obtain ⟨d3,hd3⟩:∃ t,t = dss.length:=⟨_,rfl⟩
   rw [← ht1,← ht3,← hd1,← hd2,← hd3] at hwm ⊢
   simp only [← ht1,← ht3,← hd1,← hd2,← hd3] at hsm
   have HDL:=hid' (And.intro ht1.symm (And.intro ht3.symm (And.intro hd1.symm (And.intro hd2.symm hd3.symm))))
   have HKr:=hid' hKr
   have HRE:=hid' hre
   have HWM:=hid' hwm
   have HSM:=hid' hsm
   clear hre hwm hsm hKr hk1 o1 o2 o3 hcd hq1 hq2 hq3 hq4 hq5 hq6 hrm hcwl HB hrr ht1 ht3 hd1 hd2 hd3
   go_wp2_with fail
   have kR:=(Kept.refl wr).alloc (.cells #[.string t1,.slice b1 d1 l1,.string t3,.int .i64 dm,.int .i64 dx,.int .i64 dkd,.slice b2 d2 l2,.slice b3 d3 l3] 32)
   have hR:=RowL.alloc 32 wr [.string t1,.slice b1 d1 l1,.string t3,.int .i64 dm,.int .i64 dx,.int .i64 dkd,.slice b2 d2 l2,.slice b3 d3 l3]
   generalize wr.alloc (.cells #[.string t1,.slice b1 d1 l1,.string t3,.int .i64 dm,.int .i64 dx,.int .i64 dkd,.slice b2 d2 l2,.slice b3 d3 l3] 32) = WR at kR hR ⊢
   obtain ⟨pr,hpr⟩:∃ q,q = wr.heap.size:=⟨_,rfl⟩
   rw [← hpr] at hR ⊢
   clear hpr
   have g0:=hR.cell 0 (.string t1)
   have g1:=hR.cell 1 (.slice b1 d1 l1)
   have g2:=hR.cell 2 (.string t3)
   have g3:=hR.cell 3 (.int .i64 dm)
   have g4:=hR.cell 4 (.int .i64 dx)
   have g5:=hR.cell 5 (.int .i64 dkd)
   have g6:=hR.cell 6 (.slice b2 d2 l2)
   have g7:=hR.cell 7 (.slice b3 d3 l3)
   refine (HWM.out _ kR).mono ?_
   rintro e wl ⟨hkl,u,rfl,ou⟩
   obtain ⟨ul,cl,rfl,hcl1,hcl2⟩:=own_cap ou
   have hra:=HRE.out wl (kR.trans hkl) ul cl (X.OwnS.rs ou) hcl1 hcl2
   have HR:=hid' (hR.kept hkl)
   have HKl:=hid' (kR.trans hkl)
   have HOU:=hid' (X.OwnS.rs ou)
   have h0l:0 < cwl.length:=List.length_pos_iff.2 HHD.out.2.1
   obtain ⟨lw,hlw⟩:∃ q,q = cwl.length:=⟨_,rfl⟩
   rw [← hlw] at hra HOU h0l ⊢
   have HLW:=hid' hlw
   have h0i:0 < (lw:Int):=by omega
   clear g0 g1 g2 g3 g4 g5 g6 g7 hR kR hkl ou hcl1 hcl2 hlw
   go_wp2_with fail
   refine hra.mono ?_
   rintro e wa ⟨hka,v,rfl,nv,xv,sv,rfl,o1,o2,o3⟩
   obtain ⟨e1,m1,rfl⟩:=own_shape o1
   obtain ⟨e2,m2,rfl⟩:=own_shape o2
   obtain ⟨e3,m3,rfl⟩:=own_shape o3
   have hce:CdR wa e1 dnd.length m1 e2 dvs.length m2 e3 dss.length m3 ⟨dnm,dnd,dr,(dm,dx),dkd,dvs,dss⟩:=⟨X.OwnS.rs o1,OwnN.nsl o2,OwnI.isl o3⟩
   unfold cdV
   simp only [HDL.out.1,HDL.out.2.1,HDL.out.2.2.1,HDL.out.2.2.2.1,HDL.out.2.2.2.2] at hce ⊢
   have kA:=(Kept.refl wa).alloc (.cells #[.string t1,.slice e1 d1 m1,.string t3,.int .i64 dm,.int .i64 dx,.int .i64 dkd,.slice e2 d2 m2,.slice e3 d3 m3] 32)
   have hRA:=RowL.alloc 32 wa [.string t1,.slice e1 d1 m1,.string t3,.int .i64 dm,.int .i64 dx,.int .i64 dkd,.slice e2 d2 m2,.slice e3 d3 m3]
   have hR:=HR.out.kept (hka.trans kA)
   have hOU:=HOU.out.kept (hka.trans kA)
   have HSW:=hid' (fun V (K:Kept (wa.alloc (.cells #[.string t1,.slice e1 d1 m1,.string t3,.int .i64 dm,.int .i64 dx,.int .i64 dkd,.slice e2 d2 m2,.slice e3 d3 m3] 32)) V) => HSM.out _ ((HKl.out.trans (hka.trans kA)).trans K) e1 e2 e3 m1 m2 m3 (hce.kept (kA.trans K)))
   have HKa:=hid' (HKr.out.trans (HKl.out.trans (hka.trans kA)))
   obtain ⟨c1,c2,hcc,hb1⟩:=hOU
   simp only [Value.slice.injEq] at hcc
   obtain ⟨rfl,hlw',rfl⟩:=hcc
   clear hlw'
   rw [← HLW.out] at hb1
   obtain ⟨bl,ol,rfl,hbl,hcl⟩:=hb1 h0l
   have q1:=hcl 0 h0l
   obtain ⟨c3,c4,hcc,hb2⟩:=HW.out.1.kept HKa.out
   simp only [Value.slice.injEq] at hcc
   obtain ⟨rfl,hnw,rfl⟩:=hcc
   have h0w:0 < ws.length:=List.length_pos_iff.2 HHD.out.2.2
   obtain ⟨bw,ow,rfl,hbw,hcw0⟩:=hb2 h0w
   have q2:=hcw0 0 h0w
   rw [HHD.out.1] at q1
   rw [← hnw] at h0w
   have h0wi:0 < (nw:Int):=by omega
   generalize bs (ws.getD 0 []) = sw at q1 q2
   rw [Nat.add_zero] at q1 q2
   clear hra hka kA o1 o2 o3 hce HR HKl HOU hcw0 hcl hb1 hb2 hnw HSM HRE HWM
   go_upto_region 15 with fail
   generalize wa.alloc (.cells #[.string t1,.slice e1 d1 m1,.string t3,.int .i64 dm,.int .i64 dx,.int .i64 dkd,.slice e2 d2 m2,.slice e3 d3 m3] 32) = WA at hRA hR HSW HKa q1 q2 hbl hbw ⊢
   obtain ⟨pa,hpa⟩:∃ q,q = wa.heap.size:=⟨_,rfl⟩
   rw [← hpa] at hRA ⊢
   clear hpa
   have sS:=hid' (fun (V:World) (K:Kept WA V) => And.intro (And.intro ((hRA.kept K).cell 0 (.string t1)) (And.intro ((hRA.kept K).cell 1 (.slice e1 d1 m1)) (And.intro ((hRA.kept K).cell 2 (.string t3)) (And.intro ((hRA.kept K).cell 3 (.int .i64 dm)) (And.intro ((hRA.kept K).cell 4 (.int .i64 dx)) (And.intro ((hRA.kept K).cell 5 (.int .i64 dkd)) (And.intro ((hRA.kept K).cell 6 (.slice e2 d2 m2)) ((hRA.kept K).cell 7 (.slice e3 d3 m3))))))))) (And.intro (And.intro ((hR.kept K).cell 0 (.string t1)) (And.intro ((hR.kept K).cell 1 (.slice b1 d1 l1)) (And.intro ((hR.kept K).cell 2 (.string t3)) (And.intro ((hR.kept K).cell 3 (.int .i64 dm)) (And.intro ((hR.kept K).cell 4 (.int .i64 dx)) (And.intro ((hR.kept K).cell 5 (.int .i64 dkd)) (And.intro ((hR.kept K).cell 6 (.slice b2 d2 l2)) ((hR.kept K).cell 7 (.slice b3 d3 l3))))))))) (And.intro ((Below.cell K (p:=⟨bl,ol,none⟩) hbl).trans q1) ((Below.cell K (p:=⟨bw,ow,none⟩) hbw).trans q2))))
   have KT:Kept WA WA.drew:=(Kept.refl _).drew
   refine wp_region_held_drew (S:=fun w' => (w'.cell? ⟨pa,0,none⟩ = some (.string t1)∧w'.cell? ⟨pa,1,none⟩ = some (.slice e1 d1 m1)∧w'.cell? ⟨pa,2,none⟩ = some (.string t3)∧w'.cell? ⟨pa,3,none⟩ = some (.int .i64 dm)∧w'.cell? ⟨pa,4,none⟩ = some (.int .i64 dx)∧w'.cell? ⟨pa,5,none⟩ = some (.int .i64 dkd)∧w'.cell? ⟨pa,6,none⟩ = some (.slice e2 d2 m2)∧w'.cell? ⟨pa,7,none⟩ = some (.slice e3 d3 m3))∧(w'.cell? ⟨pr,0,none⟩ = some (.string t1)∧w'.cell? ⟨pr,1,none⟩ = some (.slice b1 d1 l1)∧w'.cell? ⟨pr,2,none⟩ = some (.string t3)∧w'.cell? ⟨pr,3,none⟩ = some (.int .i64 dm)∧w'.cell? ⟨pr,4,none⟩ = some (.int .i64 dx)∧w'.cell? ⟨pr,5,none⟩ = some (.int .i64 dkd)∧w'.cell? ⟨pr,6,none⟩ = some (.slice b2 d2 l2)∧w'.cell? ⟨pr,7,none⟩ = some (.slice b3 d3 l3))∧w'.cell? ⟨bl,ol,none⟩ = some (.string sw)∧w'.cell? ⟨bw,ow,none⟩ = some (.string sw)) (by kernel_rfl) (sS.out _ KT) (fun hHeld => ?_)
   generalize WA.drew = Wd at KT hHeld ⊢
   refine tk 0 hHeld ?_
   refine tk 1 hHeld ?_
   refine tk 2 hHeld ?_
   refine tk 3 hHeld ?_
   refine tk 4 hHeld ?_
   refine tk 5 hHeld ?_
   refine tk 6 hHeld ?_
   refine tk 7 hHeld ?_
   refine tk 8 hHeld ?_
   refine rdy 9 fun K hK => ?_
   go_simp
   refine (HSW.out _ KT).mono ?_
   rintro e wz ⟨hkz,rfl⟩
   have KT:=KT.trans hkz
   refine hK.out _ _ (sS.out _ KT) (fun hHeld => ?_)
   clear hK K hkz
   refine tk 10 hHeld ?_
   refine tk 11 hHeld ?_
   refine tk 12 hHeld ?_
   refine tk 13 hHeld ?_
   refine tk 14 hHeld ?_
   refine tk 15 hHeld ?_
   refine tk 16 hHeld ?_
   refine tk 17 hHeld ?_
   refine tk 18 hHeld ?_
   refine tk 19 hHeld ?_
   refine tk 20 hHeld ?_
   refine tk 21 hHeld ?_
   refine tk 22 hHeld ?_
   refine tk 23 hHeld ?_
   refine tk 24 hHeld ?_
   refine rdy 25 fun K hK => ?_
   go_simp
   refine hK.out _ _ hHeld (fun hHeld => ?_)
   clear hK K
   refine dn ?_
   have HKz:=hid' (HKa.out.trans KT)
   clear hHeld sS hRA hR q1 q2
   go_wp2_with fail
   go_ret
   exact ⟨HKz.out,rfl⟩
 | true =>
  have hR:=(right_iff c).1 hb
  obtain ⟨hq1,hq2,hq3,hq4,hq5,hq6⟩:=right_lens hR
  rw [right_write hR] at hwr
  rw [hb] at hri
  have hsm:=fun V (K:Kept w V) e1 e2 e3 m1 m2 m3 (hd:CdR V e1 n1 m1 e2 n2 m2 e3 n3 m3 c) => same7_any a1 a2 a3 e1 e2 e3 n1 k1 n2 k2 n3 k3 m1 m2 m3 c V (hc.kept K) hd (by omega) (by omega) (by omega)
  have hre:=fun V (K:Kept w V) ul cl (hr:RS V (.slice ul (cwords c).length cl) (cwords c)) (hc1:(cwords c).length≤cl) (hc2:cl≤9223372036854775807) => readC_any ul (cwords c).length cl (cwords c) V (hL.kept K) (hE.kept K) hr hc1 hc2 (cwords_sz hq4 hq5 hq6)
  rw [right_read c hR] at hre
  obtain ⟨cwl,hcwl⟩:∃ l,l = cwords c:=⟨_,rfl⟩
  rw [← hcwl] at hwr hre
  obtain ⟨cn,cnd,cr,⟨cm,cx⟩,ckd,cvs,css⟩:=c
  unfold cdV at hwr hri hsm ⊢
  simp only at hwr hri hsm e1 e2 e3 ⊢
  obtain ⟨s1,hs1⟩:∃ t,t = bs cn:=⟨_,rfl⟩
  obtain ⟨s3,hs3⟩:∃ t,t = bs cr:=⟨_,rfl⟩
  rw [← hs1,← hs3] at hwr hri ⊢
  simp only [← hs1,← hs3] at hsm
  have HCL:=hid' (And.intro hs1.symm (And.intro hs3.symm (And.intro e1.symm (And.intro e2.symm e3.symm))))
  have HWR:=hid' hwr
  have HRI:=hid' hri
  have HSM:=hid' hsm
  have HRE:=hid' hre
  clear hwr hri hsm hre e1 e2 e3 hb hL hE hT hc hs hrs hnd h3 hcw hcm hws hR hq1 hq2 hq3 hq4 hq5 hq6 hcwl hs1 hs3
  go_enter Tryz.func6,Tryz.ntmps6
  go_wp2_with fail
  have hK:=(Kept.refl w).alloc (.cells #[.string s1,.slice a1 n1 k1,.string s3,.int .i64 cm,.int .i64 cx,.int .i64 ckd,.slice a2 n2 k2,.slice a3 n3 k3] 32)
  have hA:=RowL.alloc 32 w [.string s1,.slice a1 n1 k1,.string s3,.int .i64 cm,.int .i64 cx,.int .i64 ckd,.slice a2 n2 k2,.slice a3 n3 k3]
  generalize w.alloc (.cells #[.string s1,.slice a1 n1 k1,.string s3,.int .i64 cm,.int .i64 cx,.int .i64 ckd,.slice a2 n2 k2,.slice a3 n3 k3] 32) = W0 at hK hA ⊢
  obtain ⟨p,hp⟩:∃ q,q = w.heap.size:=⟨_,rfl⟩
  rw [← hp] at hA ⊢
  clear hp
  refine (awake7_any _ (HG.out.1.kept hK) (HG.out.2.1.kept hK) (HG.out.2.2.kept hK)).mono ?_
  rintro e w1 ⟨hk1,rfl⟩
  have HK:=hid' (hK.trans hk1)
  have HA:=hid' (hA.kept hk1)
  have f0:=HA.out.cell 0 (.string s1)
  have f1:=HA.out.cell 1 (.slice a1 n1 k1)
  have f2:=HA.out.cell 2 (.string s3)
  have f3:=HA.out.cell 3 (.int .i64 cm)
  have f4:=HA.out.cell 4 (.int .i64 cx)
  have f5:=HA.out.cell 5 (.int .i64 ckd)
  have f6:=HA.out.cell 6 (.slice a2 n2 k2)
  have f7:=HA.out.cell 7 (.slice a3 n3 k3)
  clear hK hA hk1
  go_wp2_with fail
  refine (HWR.out _ HK.out).mono ?_
  rintro e w2 ⟨hk2,u,rfl,ou⟩
  have HK:=hid' (HK.out.trans hk2)
  have HA:=hid' (HA.out.kept hk2)
  clear f0 f1 f2 f3 f4 f5 f6 f7 hk2
  have f0:=HA.out.cell 0 (.string s1)
  have f1:=HA.out.cell 1 (.slice a1 n1 k1)
  have f2:=HA.out.cell 2 (.string s3)
  have f3:=HA.out.cell 3 (.int .i64 cm)
  have f4:=HA.out.cell 4 (.int .i64 cx)
  have f5:=HA.out.cell 5 (.int .i64 ckd)
  have f6:=HA.out.cell 6 (.slice a2 n2 k2)
  have f7:=HA.out.cell 7 (.slice a3 n3 k3)
  obtain ⟨ul,cl,rfl,hcl1,hcl2⟩:=own_cap ou
  have HO:=hid' (X.OwnS.rs ou)
  clear ou
  have HLE:=hid' (And.intro hcl1 hcl2)
  obtain ⟨lw,hlw⟩:∃ q,q = cwl.length:=⟨_,rfl⟩
  rw [← hlw] at HO HLE ⊢
  simp only [← hlw] at HRE
  clear hcl1 hcl2 hlw
  go_wp2_with fail
  refine (HRI.out _ HK.out).mono ?_
  rintro e w3 ⟨hk3,rfl⟩
  have hra:=HRE.out w3 (HK.out.trans hk3) ul cl (HO.out.kept hk3) HLE.out.1 HLE.out.2
  have HK:=hid' (HK.out.trans hk3)
  have HA:=hid' (HA.out.kept hk3)
  clear f0 f1 f2 f3 f4 f5 f6 f7 hk3 HWR HRI HO
  go_wp2_with fail
  refine hra.mono ?_
  rintro e wb ⟨hkb,v,rfl,nv,xv,sv,rfl,o1,o2,o3⟩
  obtain ⟨e1,m1,rfl⟩:=own_shape o1
  obtain ⟨e2,m2,rfl⟩:=own_shape o2
  obtain ⟨e3,m3,rfl⟩:=own_shape o3
  have hce:CdR wb e1 cnd.length m1 e2 cvs.length m2 e3 css.length m3 ⟨cn,cnd,cr,(cm,cx),ckd,cvs,css⟩:=⟨X.OwnS.rs o1,OwnN.nsl o2,OwnI.isl o3⟩
  unfold cdV
  simp only [HCL.out.1,HCL.out.2.1,HCL.out.2.2.1,HCL.out.2.2.2.1,HCL.out.2.2.2.2] at hce ⊢
  have kB:=(Kept.refl wb).alloc (.cells #[.string s1,.slice e1 n1 m1,.string s3,.int .i64 cm,.int .i64 cx,.int .i64 ckd,.slice e2 n2 m2,.slice e3 n3 m3] 32)
  have hR:=HA.out.kept (hkb.trans kB)
  have f0:=hR.cell 0 (.string s1)
  have f1:=hR.cell 1 (.slice a1 n1 k1)
  have f2:=hR.cell 2 (.string s3)
  have f3:=hR.cell 3 (.int .i64 cm)
  have f4:=hR.cell 4 (.int .i64 cx)
  have f5:=hR.cell 5 (.int .i64 ckd)
  have f6:=hR.cell 6 (.slice a2 n2 k2)
  have f7:=hR.cell 7 (.slice a3 n3 k3)
  have hs7:=HSM.out _ (HK.out.trans (hkb.trans kB)) e1 e2 e3 m1 m2 m3 (hce.kept kB)
  have HKb:=hid' (HK.out.trans (hkb.trans kB))
  clear hra hkb hR kB o1 o2 o3 hce HA
  go_wp2_with fail
  refine hs7.mono ?_
  rintro e wq ⟨hkq,rfl⟩
  have HK:=hid' (HKb.out.trans hkq)
  clear hkq hs7 f0 f1 f2 f3 f4 f5 f6 f7 HKb HSM HRE HCL HLE
  go_wp2_with fail
  have hrm:=HRD.out _ HK.out
  cases hrr:readC ws with
  | error x =>
   rw [hrr] at hrm
   refine hrm.mono ?_
   rintro e wr ⟨hk1,rfl,hx0⟩
   have hx0':(x == 0) = false:=by simpa using hx0
   have HKr:=hid' (HK.out.trans hk1)
   clear hrm hk1
   unfold zeroCd
   go_wp2_with fail
   refine (same7_zero _).mono ?_
   rintro e wz ⟨hk2,rfl⟩
   have HKz:=hid' ((HKr.out.alloc _).trans hk2)
   clear hk2
   go_wp2_with fail
   go_ret
   exact ⟨HKz.out,rfl⟩
  | ok d =>
   rw [hrr] at hrm
   have HB:=hid' (And.intro (read_back hrr) (And.intro (right_lens (read_back hrr).1) (read_right hrr).2.2))
   refine hrm.mono ?_
   rintro e wr ⟨hk1,v,rfl,nv,xv,sv,rfl,o1,o2,o3⟩
   obtain ⟨b1,l1,rfl⟩:=own_shape o1
   obtain ⟨b2,l2,rfl⟩:=own_shape o2
   obtain ⟨b3,l3,rfl⟩:=own_shape o3
   have hcd:CdR wr b1 d.nodes.length l1 b2 d.vals.length l2 b3 d.steps.length l3 d:=⟨X.OwnS.rs o1,OwnN.nsl o2,OwnI.isl o3⟩
   obtain ⟨hq1,hq2,hq3,hq4,hq5,hq6⟩:=HB.out.2.1
   have hKr:=HK.out.trans hk1
   have hwm:=fun V (K:Kept wr V) => write_any b1 b2 b3 d.nodes.length l1 d.vals.length l2 d.steps.length l3 d V (HG.out.1.kept (hKr.trans K)) (HG.out.2.1.kept (hKr.trans K)) (HG.out.2.2.kept (hKr.trans K)) (hcd.kept K) (by omega) (cwords_sz hq4 hq5 hq6) hq4
   have hsm:=fun V (K:Kept wr V) e1 e2 e3 m1 m2 m3 (hd:CdR V e1 d.nodes.length m1 e2 d.vals.length m2 e3 d.steps.length m3 d) => same7_any e1 e2 e3 b1 b2 b3 d.nodes.length m1 d.vals.length m2 d.steps.length m3 l1 l2 l3 d V hd (hcd.kept K) (by omega) (by omega) (by omega)
   rw [HB.out.1.2.1] at hwm
   have hre:=fun V (K:Kept wr V) ul cl (hr:RS V (.slice ul (cwords d).length cl) (cwords d)) (hc1:(cwords d).length≤cl) (hc2:cl≤9223372036854775807) => readC_any ul (cwords d).length cl (cwords d) V (HG.out.1.kept (hKr.trans K)) (HG.out.2.1.kept (hKr.trans K)) hr hc1 hc2 (cwords_sz hq4 hq5 hq6)
   rw [HB.out.1.2.2.1] at hre
   have HHD:=hid' (And.intro HB.out.1.2.2.2 (And.intro (cwords_head d).2 HB.out.2.2))
   obtain ⟨cwl,hcwl⟩:∃ l,l = cwords d:=⟨_,rfl⟩
   rw [← hcwl] at hwm hre HHD
   obtain ⟨dnm,dnd,dr,⟨dm,dx⟩,dkd,dvs,dss⟩:=d
   unfold cdV at hwm hsm ⊢
   simp only at hwm hsm ⊢
   obtain ⟨t1,ht1⟩:∃ t,t = bs dnm:=⟨_,rfl⟩
   obtain ⟨t3,ht3⟩:∃ t,t = bs dr:=⟨_,rfl⟩
   obtain ⟨d1,hd1⟩:∃ t,t = dnd.length:=⟨_,rfl⟩
   obtain ⟨d2,hd2⟩:∃ t,t = dvs.length:=⟨_,rfl⟩
   obtain ⟨d3,hd3⟩:∃ t,t = dss.length:=⟨_,rfl⟩
   rw [← ht1,← ht3,← hd1,← hd2,← hd3] at hwm ⊢
   simp only [← ht1,← ht3,← hd1,← hd2,← hd3] at hsm
   have HDL:=hid' (And.intro ht1.symm (And.intro ht3.symm (And.intro hd1.symm (And.intro hd2.symm hd3.symm))))
   have HKr:=hid' hKr
   have HRE:=hid' hre
   have HWM:=hid' hwm
   have HSM:=hid' hsm
   clear hre hwm hsm hKr hk1 o1 o2 o3 hcd hq1 hq2 hq3 hq4 hq5 hq6 hrm hcwl HB hrr ht1 ht3 hd1 hd2 hd3
   go_wp2_with fail
   have kR:=(Kept.refl wr).alloc (.cells #[.string t1,.slice b1 d1 l1,.string t3,.int .i64 dm,.int .i64 dx,.int .i64 dkd,.slice b2 d2 l2,.slice b3 d3 l3] 32)
   have hR:=RowL.alloc 32 wr [.string t1,.slice b1 d1 l1,.string t3,.int .i64 dm,.int .i64 dx,.int .i64 dkd,.slice b2 d2 l2,.slice b3 d3 l3]
   generalize wr.alloc (.cells #[.string t1,.slice b1 d1 l1,.string t3,.int .i64 dm,.int .i64 dx,.int .i64 dkd,.slice b2 d2 l2,.slice b3 d3 l3] 32) = WR at kR hR ⊢
   obtain ⟨pr,hpr⟩:∃ q,q = wr.heap.size:=⟨_,rfl⟩
   rw [← hpr] at hR ⊢
   clear hpr
   have g0:=hR.cell 0 (.string t1)
   have g1:=hR.cell 1 (.slice b1 d1 l1)
   have g2:=hR.cell 2 (.string t3)
   have g3:=hR.cell 3 (.int .i64 dm)
   have g4:=hR.cell 4 (.int .i64 dx)
   have g5:=hR.cell 5 (.int .i64 dkd)
   have g6:=hR.cell 6 (.slice b2 d2 l2)
   have g7:=hR.cell 7 (.slice b3 d3 l3)
   refine (HWM.out _ kR).mono ?_
   rintro e wl ⟨hkl,u,rfl,ou⟩
   obtain ⟨ul,cl,rfl,hcl1,hcl2⟩:=own_cap ou
   have hra:=HRE.out wl (kR.trans hkl) ul cl (X.OwnS.rs ou) hcl1 hcl2
   have HR:=hid' (hR.kept hkl)
   have HKl:=hid' (kR.trans hkl)
   have HOU:=hid' (X.OwnS.rs ou)
   have h0l:0 < cwl.length:=List.length_pos_iff.2 HHD.out.2.1
   obtain ⟨lw,hlw⟩:∃ q,q = cwl.length:=⟨_,rfl⟩
   rw [← hlw] at hra HOU h0l ⊢
   have HLW:=hid' hlw
   have h0i:0 < (lw:Int):=by omega
   clear g0 g1 g2 g3 g4 g5 g6 g7 hR kR hkl ou hcl1 hcl2 hlw
   go_wp2_with fail
   refine hra.mono ?_
   rintro e wa ⟨hka,v,rfl,nv,xv,sv,rfl,o1,o2,o3⟩
   obtain ⟨e1,m1,rfl⟩:=own_shape o1
   obtain ⟨e2,m2,rfl⟩:=own_shape o2
   obtain ⟨e3,m3,rfl⟩:=own_shape o3
   have hce:CdR wa e1 dnd.length m1 e2 dvs.length m2 e3 dss.length m3 ⟨dnm,dnd,dr,(dm,dx),dkd,dvs,dss⟩:=⟨X.OwnS.rs o1,OwnN.nsl o2,OwnI.isl o3⟩
   unfold cdV
   simp only [HDL.out.1,HDL.out.2.1,HDL.out.2.2.1,HDL.out.2.2.2.1,HDL.out.2.2.2.2] at hce ⊢
   have kA:=(Kept.refl wa).alloc (.cells #[.string t1,.slice e1 d1 m1,.string t3,.int .i64 dm,.int .i64 dx,.int .i64 dkd,.slice e2 d2 m2,.slice e3 d3 m3] 32)
   have hRA:=RowL.alloc 32 wa [.string t1,.slice e1 d1 m1,.string t3,.int .i64 dm,.int .i64 dx,.int .i64 dkd,.slice e2 d2 m2,.slice e3 d3 m3]
   have hR:=HR.out.kept (hka.trans kA)
   have hOU:=HOU.out.kept (hka.trans kA)
   have HSW:=hid' (fun V (K:Kept (wa.alloc (.cells #[.string t1,.slice e1 d1 m1,.string t3,.int .i64 dm,.int .i64 dx,.int .i64 dkd,.slice e2 d2 m2,.slice e3 d3 m3] 32)) V) => HSM.out _ ((HKl.out.trans (hka.trans kA)).trans K) e1 e2 e3 m1 m2 m3 (hce.kept (kA.trans K)))
   have HKa:=hid' (HKr.out.trans (HKl.out.trans (hka.trans kA)))
   obtain ⟨c1,c2,hcc,hb1⟩:=hOU
   simp only [Value.slice.injEq] at hcc
   obtain ⟨rfl,hlw',rfl⟩:=hcc
   clear hlw'
   rw [← HLW.out] at hb1
   obtain ⟨bl,ol,rfl,hbl,hcl⟩:=hb1 h0l
   have q1:=hcl 0 h0l
   obtain ⟨c3,c4,hcc,hb2⟩:=HW.out.1.kept HKa.out
   simp only [Value.slice.injEq] at hcc
   obtain ⟨rfl,hnw,rfl⟩:=hcc
   have h0w:0 < ws.length:=List.length_pos_iff.2 HHD.out.2.2
   obtain ⟨bw,ow,rfl,hbw,hcw0⟩:=hb2 h0w
   have q2:=hcw0 0 h0w
   rw [HHD.out.1] at q1
   rw [← hnw] at h0w
   have h0wi:0 < (nw:Int):=by omega
   generalize bs (ws.getD 0 []) = sw at q1 q2
   rw [Nat.add_zero] at q1 q2
   clear hra hka kA o1 o2 o3 hce HR HKl HOU hcw0 hcl hb1 hb2 hnw HSM HRE HWM
   go_upto_region 15 with fail
   generalize wa.alloc (.cells #[.string t1,.slice e1 d1 m1,.string t3,.int .i64 dm,.int .i64 dx,.int .i64 dkd,.slice e2 d2 m2,.slice e3 d3 m3] 32) = WA at hRA hR HSW HKa q1 q2 hbl hbw ⊢
   obtain ⟨pa,hpa⟩:∃ q,q = wa.heap.size:=⟨_,rfl⟩
   rw [← hpa] at hRA ⊢
   clear hpa
   have sS:=hid' (fun (V:World) (K:Kept WA V) => And.intro (And.intro ((hRA.kept K).cell 0 (.string t1)) (And.intro ((hRA.kept K).cell 1 (.slice e1 d1 m1)) (And.intro ((hRA.kept K).cell 2 (.string t3)) (And.intro ((hRA.kept K).cell 3 (.int .i64 dm)) (And.intro ((hRA.kept K).cell 4 (.int .i64 dx)) (And.intro ((hRA.kept K).cell 5 (.int .i64 dkd)) (And.intro ((hRA.kept K).cell 6 (.slice e2 d2 m2)) ((hRA.kept K).cell 7 (.slice e3 d3 m3))))))))) (And.intro (And.intro ((hR.kept K).cell 0 (.string t1)) (And.intro ((hR.kept K).cell 1 (.slice b1 d1 l1)) (And.intro ((hR.kept K).cell 2 (.string t3)) (And.intro ((hR.kept K).cell 3 (.int .i64 dm)) (And.intro ((hR.kept K).cell 4 (.int .i64 dx)) (And.intro ((hR.kept K).cell 5 (.int .i64 dkd)) (And.intro ((hR.kept K).cell 6 (.slice b2 d2 l2)) ((hR.kept K).cell 7 (.slice b3 d3 l3))))))))) (And.intro ((Below.cell K (p:=⟨bl,ol,none⟩) hbl).trans q1) ((Below.cell K (p:=⟨bw,ow,none⟩) hbw).trans q2))))
   have KT:Kept WA WA.drew:=(Kept.refl _).drew
   refine wp_region_held_drew (S:=fun w' => (w'.cell? ⟨pa,0,none⟩ = some (.string t1)∧w'.cell? ⟨pa,1,none⟩ = some (.slice e1 d1 m1)∧w'.cell? ⟨pa,2,none⟩ = some (.string t3)∧w'.cell? ⟨pa,3,none⟩ = some (.int .i64 dm)∧w'.cell? ⟨pa,4,none⟩ = some (.int .i64 dx)∧w'.cell? ⟨pa,5,none⟩ = some (.int .i64 dkd)∧w'.cell? ⟨pa,6,none⟩ = some (.slice e2 d2 m2)∧w'.cell? ⟨pa,7,none⟩ = some (.slice e3 d3 m3))∧(w'.cell? ⟨pr,0,none⟩ = some (.string t1)∧w'.cell? ⟨pr,1,none⟩ = some (.slice b1 d1 l1)∧w'.cell? ⟨pr,2,none⟩ = some (.string t3)∧w'.cell? ⟨pr,3,none⟩ = some (.int .i64 dm)∧w'.cell? ⟨pr,4,none⟩ = some (.int .i64 dx)∧w'.cell? ⟨pr,5,none⟩ = some (.int .i64 dkd)∧w'.cell? ⟨pr,6,none⟩ = some (.slice b2 d2 l2)∧w'.cell? ⟨pr,7,none⟩ = some (.slice b3 d3 l3))∧w'.cell? ⟨bl,ol,none⟩ = some (.string sw)∧w'.cell? ⟨bw,ow,none⟩ = some (.string sw)) (by kernel_rfl) (sS.out _ KT) (fun hHeld => ?_)
   generalize WA.drew = Wd at KT hHeld ⊢
   refine tk 0 hHeld ?_
   refine tk 1 hHeld ?_
   refine tk 2 hHeld ?_
   refine tk 3 hHeld ?_
   refine tk 4 hHeld ?_
   refine tk 5 hHeld ?_
   refine tk 6 hHeld ?_
   refine tk 7 hHeld ?_
   refine tk 8 hHeld ?_
   refine rdy 9 fun K hK => ?_
   go_simp
   refine (HSW.out _ KT).mono ?_
   rintro e wz ⟨hkz,rfl⟩
   have KT:=KT.trans hkz
   refine hK.out _ _ (sS.out _ KT) (fun hHeld => ?_)
   clear hK K hkz
   refine tk 10 hHeld ?_
   refine tk 11 hHeld ?_
   refine tk 12 hHeld ?_
   refine tk 13 hHeld ?_
   refine tk 14 hHeld ?_
   refine tk 15 hHeld ?_
   refine tk 16 hHeld ?_
   refine tk 17 hHeld ?_
   refine tk 18 hHeld ?_
   refine tk 19 hHeld ?_
   refine tk 20 hHeld ?_
   refine tk 21 hHeld ?_
   refine tk 22 hHeld ?_
   refine tk 23 hHeld ?_
   refine tk 24 hHeld ?_
   refine rdy 25 fun K hK => ?_
   go_simp
   refine hK.out _ _ hHeld (fun hHeld => ?_)
   clear hK K
   refine dn ?_
   have HKz:=hid' (HKa.out.trans KT)
   clear hHeld sS hRA hR q1 q2
   go_wp2_with fail
   go_ret
   exact ⟨HKz.out,rfl⟩
end V
end Go.Proofs.YtembglnonhlnkaaGreatDoor
