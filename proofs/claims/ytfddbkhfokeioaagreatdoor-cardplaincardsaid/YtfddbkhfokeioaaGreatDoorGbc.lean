/- card.same. shuntref07.Same of two that are the same. card.cardWords. card.Write of cards without a wave. shuntlaw07.awake. CardPlain's walk. -/
import Derived.Test.YtfddbkhfokeioaaGreatDoorCc1
import Derived.Test.YtfddbkhfokeioaaGreatDoorGbb
import Derived.Test.YtfddbkhfokeioaaGreatDoorGau
import Derived.Test.YtfddbkhfokeioaaGreatDoorXz
import Derived.Laws.OwnMore
import Derived.Test.YtfddbkhfokeioaaGreatDoorGba
namespace Go.Proofs.YtfddbkhfokeioaaGreatDoor
open Go.RowKit
namespace V
open Q (hid' parseOf Lett ErrV Tab okN textOf)
open X (bs OwnS RS strs bs_list bs_size)
structure CdR (w:World) (a1:Option Addr) (n1 k1:Nat) (a2:Option Addr) (n2 k2:Nat) (a3:Option Addr) (n3 k3:Nat) (c:Cd):Prop where
 nodes:RS w (.slice a1 n1 k1) c.nodes
 vals:NSl w (.slice a2 n2 k2) c.vals
 steps:ISl w (.slice a3 n3 k3) c.steps
theorem CdR.kept {w w':World} {a1 a2 a3:Option Addr} {n1 k1 n2 k2 n3 k3:Nat} {c:Cd} (h:CdR w a1 n1 k1 a2 n2 k2 a3 n3 k3 c) (k:Kept w w'):CdR w' a1 n1 k1 a2 n2 k2 a3 n3 k3 c:=⟨h.nodes.kept k,h.vals.kept k,h.steps.kept k⟩
def cdC (c:Cd) (nv xv sv:Value):List Value:=[.string (bs c.name),nv,.string (bs c.ref),.int .i64 c.val.1,.int .i64 c.val.2,.int .i64 c.kind,xv,sv]
set_option maxRecDepth 100000 in
set_option maxHeartbeats 8000000 in
theorem csame_any (a1 a2 a3 b1 b2 b3:Option Addr) (n1 k1 n2 k2 n3 k3 m1 l1 m2 l2 m3 l3:Nat) (c d:Cd) (w:World) (hc:CdR w a1 n1 k1 a2 n2 k2 a3 n3 k3 c) (hd:CdR w b1 m1 l1 b2 m2 l2 b3 m3 l3 d) (h1:n1≤9223372036854775807) (h2:n2≤9223372036854775807) (h3:n3≤9223372036854775807) :
  Calls Tryz.prog 48 #[cdV c (.slice a1 n1 k1) (.slice a2 n2 k2) (.slice a3 n3 k3),cdV d (.slice b1 m1 l1) (.slice b2 m2 l2) (.slice b3 m3 l3)] w fun e w' => Kept w w'∧e = .returned (.bool (decide (c = d))):=by
 obtain ⟨cn,cnd,cr,⟨cm,cx⟩,ckd,cvs,css⟩:=c
 obtain ⟨dn,dnd,dr,⟨dm,dx⟩,dkd,dvs,dss⟩:=d
 unfold cdV
 simp only
 have HC:=hid' (And.intro hc hd)
 have e1:(bs cn).toList = cn:=by rw [ByteArray.toList_eq,bs_list]
 have e2:(bs dn).toList = dn:=by rw [ByteArray.toList_eq,bs_list]
 have e3:(bs cr).toList = cr:=by rw [ByteArray.toList_eq,bs_list]
 have e4:(bs dr).toList = dr:=by rw [ByteArray.toList_eq,bs_list]
 generalize bs cn = s1 at e1 ⊢
 generalize bs dn = s2 at e2 ⊢
 generalize bs cr = s3 at e3 ⊢
 generalize bs dr = s4 at e4 ⊢
 have HE:=hid' (And.intro e1 (And.intro e2 (And.intro e3 e4)))
 obtain ⟨r,hr⟩:∃ r,r = decide ((⟨cn,cnd,cr,(cm,cx),ckd,cvs,css⟩:Cd) = ⟨dn,dnd,dr,(dm,dx),dkd,dvs,dss⟩):=⟨_,rfl⟩
 rw [← hr]
 have HR:=hid' hr
 clear hr e1 e2 e3 e4 hc hd
 go_enter Tryz.func48,Tryz.ntmps48
 go_upto_region 1 with fail
 have hK:=((Kept.refl w).alloc (.cells #[.string s1,.slice a1 n1 k1,.string s3,.int .i64 cm,.int .i64 cx,.int .i64 ckd,.slice a2 n2 k2,.slice a3 n3 k3] 32)).alloc (.cells #[.string s2,.slice b1 m1 l1,.string s4,.int .i64 dm,.int .i64 dx,.int .i64 dkd,.slice b2 m2 l2,.slice b3 m3 l3] 32)
 have hA:=(RowL.alloc 32 w [.string s1,.slice a1 n1 k1,.string s3,.int .i64 cm,.int .i64 cx,.int .i64 ckd,.slice a2 n2 k2,.slice a3 n3 k3]).kept ((Kept.refl _).alloc (.cells #[.string s2,.slice b1 m1 l1,.string s4,.int .i64 dm,.int .i64 dx,.int .i64 dkd,.slice b2 m2 l2,.slice b3 m3 l3] 32))
 have hB:=RowL.alloc 32 (w.alloc (.cells #[.string s1,.slice a1 n1 k1,.string s3,.int .i64 cm,.int .i64 cx,.int .i64 ckd,.slice a2 n2 k2,.slice a3 n3 k3] 32)) [.string s2,.slice b1 m1 l1,.string s4,.int .i64 dm,.int .i64 dx,.int .i64 dkd,.slice b2 m2 l2,.slice b3 m3 l3]
 rw [World.size_alloc] at hB
 generalize (w.alloc (.cells #[.string s1,.slice a1 n1 k1,.string s3,.int .i64 cm,.int .i64 cx,.int .i64 ckd,.slice a2 n2 k2,.slice a3 n3 k3] 32)).alloc (.cells #[.string s2,.slice b1 m1 l1,.string s4,.int .i64 dm,.int .i64 dx,.int .i64 dkd,.slice b2 m2 l2,.slice b3 m3 l3] 32) = W0 at hK hA hB ⊢
 obtain ⟨q,hq⟩:∃ q,q = w.heap.size + 1:=⟨_,rfl⟩
 rw [← hq] at hB ⊢
 obtain ⟨p,hp⟩:∃ q,q = w.heap.size:=⟨_,rfl⟩
 rw [← hp] at hA ⊢
 have HW:=hid' (And.intro hK (And.intro hA hB))
 clear hK hA hB hq hp
 have f0:=HW.out.2.1.cell 0 (.string s1)
 have f1:=HW.out.2.1.cell 1 (.slice a1 n1 k1)
 have f2:=HW.out.2.1.cell 2 (.string s3)
 have f3:=HW.out.2.1.cell 3 (.int .i64 cm)
 have f4:=HW.out.2.1.cell 4 (.int .i64 cx)
 have f5:=HW.out.2.1.cell 5 (.int .i64 ckd)
 have f6:=HW.out.2.1.cell 6 (.slice a2 n2 k2)
 have f7:=HW.out.2.1.cell 7 (.slice a3 n3 k3)
 have g0:=HW.out.2.2.cell 0 (.string s2)
 have g1:=HW.out.2.2.cell 1 (.slice b1 m1 l1)
 have g2:=HW.out.2.2.cell 2 (.string s4)
 have g3:=HW.out.2.2.cell 3 (.int .i64 dm)
 have g4:=HW.out.2.2.cell 4 (.int .i64 dx)
 have g5:=HW.out.2.2.cell 5 (.int .i64 dkd)
 have g6:=HW.out.2.2.cell 6 (.slice b2 m2 l2)
 have g7:=HW.out.2.2.cell 7 (.slice b3 m3 l3)
 by_cases x1:cn = dn
 rotate_left
 ·
  have y1:¬ s1.toList = s2.toList:=by rw [HE.out.1,HE.out.2.1]; exact x1
  have y1':(s1.toList == s2.toList) = false:=by simpa using y1
  have HF:=hid' (show r = false by rw [HR.out]; exact decide_eq_false (fun e => x1 (congrArg Cd.name e)))
  go_wp2_with fail
  go_ret
  exact ⟨HW.out.1,by rw [HF.out]; rfl⟩
 have y1:s1.toList = s2.toList:=by rw [HE.out.1,HE.out.2.1]; exact x1
 have y1':(s1.toList == s2.toList) = true:=by rw [y1]; simp
 go_wp2_with fail
 refine (eq_strs a1 b1 n1 m1 k1 l1 cnd dnd _ (HC.out.1.nodes.kept HW.out.1) (HC.out.2.nodes.kept HW.out.1) (by assumption)).mono ?_
 rintro e w1 ⟨hk,rfl⟩
 have HW:=hid' (And.intro (HW.out.1.trans hk) (And.intro (HW.out.2.1.kept hk) (HW.out.2.2.kept hk)))
 clear f0 f1 f2 f3 f4 f5 f6 f7 g0 g1 g2 g3 g4 g5 g6 g7
 clear hk
 have f0:=HW.out.2.1.cell 0 (.string s1)
 have f1:=HW.out.2.1.cell 1 (.slice a1 n1 k1)
 have f2:=HW.out.2.1.cell 2 (.string s3)
 have f3:=HW.out.2.1.cell 3 (.int .i64 cm)
 have f4:=HW.out.2.1.cell 4 (.int .i64 cx)
 have f5:=HW.out.2.1.cell 5 (.int .i64 ckd)
 have f6:=HW.out.2.1.cell 6 (.slice a2 n2 k2)
 have f7:=HW.out.2.1.cell 7 (.slice a3 n3 k3)
 have g0:=HW.out.2.2.cell 0 (.string s2)
 have g1:=HW.out.2.2.cell 1 (.slice b1 m1 l1)
 have g2:=HW.out.2.2.cell 2 (.string s4)
 have g3:=HW.out.2.2.cell 3 (.int .i64 dm)
 have g4:=HW.out.2.2.cell 4 (.int .i64 dx)
 have g5:=HW.out.2.2.cell 5 (.int .i64 dkd)
 have g6:=HW.out.2.2.cell 6 (.slice b2 m2 l2)
 have g7:=HW.out.2.2.cell 7 (.slice b3 m3 l3)
 by_cases x2:cnd = dnd
 rotate_left
 ·
  rw [decide_eq_false x2]
  have HF:=hid' (show r = false by rw [HR.out]; exact decide_eq_false (fun e => x2 (congrArg Cd.nodes e)))
  go_wp2_with fail
  go_ret
  exact ⟨HW.out.1,by rw [HF.out]; rfl⟩
 rw [decide_eq_true x2]
 by_cases x3:cr = dr
 rotate_left
 ·
  have y3:¬ s3.toList = s4.toList:=by rw [HE.out.2.2.1,HE.out.2.2.2]; exact x3
  have y3':(s3.toList == s4.toList) = false:=by simpa using y3
  have HF:=hid' (show r = false by rw [HR.out]; exact decide_eq_false (fun e => x3 (congrArg Cd.ref e)))
  go_wp2_with fail
  go_ret
  exact ⟨HW.out.1,by rw [HF.out]; rfl⟩
 have y3:s3.toList = s4.toList:=by rw [HE.out.2.2.1,HE.out.2.2.2]; exact x3
 have y3':(s3.toList == s4.toList) = true:=by rw [y3]; simp
 by_cases x4:cm = dm
 rotate_left
 ·
  have x4':(cm == dm) = false:=by simpa using x4
  have HF:=hid' (show r = false by rw [HR.out]; exact decide_eq_false (fun e => x4 (congrArg (fun c => c.val.1) e)))
  go_wp2_with fail
  go_ret
  exact ⟨HW.out.1,by rw [HF.out]; rfl⟩
 subst x4
 by_cases x5:cx = dx
 rotate_left
 ·
  have x5':(cx == dx) = false:=by simpa using x5
  have HF:=hid' (show r = false by rw [HR.out]; exact decide_eq_false (fun e => x5 (congrArg (fun c => c.val.2) e)))
  go_wp2_with fail
  go_ret
  exact ⟨HW.out.1,by rw [HF.out]; rfl⟩
 subst x5
 by_cases x6:ckd = dkd
 rotate_left
 ·
  have x6':(ckd == dkd) = false:=by simpa using x6
  have HF:=hid' (show r = false by rw [HR.out]; exact decide_eq_false (fun e => x6 (congrArg Cd.kind e)))
  go_wp2_with fail
  go_ret
  exact ⟨HW.out.1,by rw [HF.out]; rfl⟩
 subst x6
 go_wp2_with fail
 refine (eq_nums a2 b2 n2 m2 k2 l2 cvs dvs _ (HC.out.1.vals.kept HW.out.1) (HC.out.2.vals.kept HW.out.1) (by assumption)).mono ?_
 rintro e w2 ⟨hk,rfl⟩
 have HW:=hid' (And.intro (HW.out.1.trans hk) (And.intro (HW.out.2.1.kept hk) (HW.out.2.2.kept hk)))
 clear f0 f1 f2 f3 f4 f5 f6 f7 g0 g1 g2 g3 g4 g5 g6 g7
 clear hk
 have f0:=HW.out.2.1.cell 0 (.string s1)
 have f1:=HW.out.2.1.cell 1 (.slice a1 n1 k1)
 have f2:=HW.out.2.1.cell 2 (.string s3)
 have f3:=HW.out.2.1.cell 3 (.int .i64 cm)
 have f4:=HW.out.2.1.cell 4 (.int .i64 cx)
 have f5:=HW.out.2.1.cell 5 (.int .i64 ckd)
 have f6:=HW.out.2.1.cell 6 (.slice a2 n2 k2)
 have f7:=HW.out.2.1.cell 7 (.slice a3 n3 k3)
 have g0:=HW.out.2.2.cell 0 (.string s2)
 have g1:=HW.out.2.2.cell 1 (.slice b1 m1 l1)
 have g2:=HW.out.2.2.cell 2 (.string s4)
 have g3:=HW.out.2.2.cell 3 (.int .i64 cm)
 have g4:=HW.out.2.2.cell 4 (.int .i64 cx)
 have g5:=HW.out.2.2.cell 5 (.int .i64 ckd)
 have g6:=HW.out.2.2.cell 6 (.slice b2 m2 l2)
 have g7:=HW.out.2.2.cell 7 (.slice b3 m3 l3)
 by_cases x7:cvs = dvs
 rotate_left
 ·
  rw [decide_eq_false x7]
  have HF:=hid' (show r = false by rw [HR.out]; exact decide_eq_false (fun e => x7 (congrArg Cd.vals e)))
  go_wp2_with fail
  go_ret
  exact ⟨HW.out.1,by rw [HF.out]; rfl⟩
 rw [decide_eq_true x7]
 go_wp2_with fail
 refine (eq_ints a3 b3 n3 m3 k3 l3 css dss _ (HC.out.1.steps.kept HW.out.1) (HC.out.2.steps.kept HW.out.1) (by assumption)).mono ?_
 rintro e w3 ⟨hk,rfl⟩
 have HK:=hid' (HW.out.1.trans hk)
 clear hk
 have HF:=hid' (show r = decide (css = dss) by
  rw [HR.out,decide_eq_decide]
  exact ⟨fun e => congrArg Cd.steps e,fun e => by rw [x1,x2,x3,x7,e]⟩)
 clear f0 f1 f2 f3 f4 f5 f6 f7 g0 g1 g2 g3 g4 g5 g6 g7
 generalize decide (css = dss) = bb at HF ⊢
 cases bb <;>
 ·
  go_wp2_with fail
  go_ret
  exact ⟨HK.out,by rw [HF.out]; rfl⟩
end V
end Go.Proofs.YtfddbkhfokeioaaGreatDoor

namespace Go.Proofs.YtfddbkhfokeioaaGreatDoor
open Go.RowKit
namespace V
open Q (hid' parseOf Lett ErrV Tab okN textOf)
open X (bs OwnS RS strs bs_list bs_size)
set_option maxRecDepth 100000 in
set_option maxHeartbeats 8000000 in
theorem same7_any (a1 a2 a3 b1 b2 b3:Option Addr) (n1 k1 n2 k2 n3 k3 l1 l2 l3:Nat) (c:Cd) (w:World) (hc:CdR w a1 n1 k1 a2 n2 k2 a3 n3 k3 c) (hd:CdR w b1 n1 l1 b2 n2 l2 b3 n3 l3 c) (h1:n1≤1000000) (h2:n2≤9223372036854775807) (h3:n3≤9223372036854775807) :
  Calls Tryz.prog 13 #[cdV c (.slice a1 n1 k1) (.slice a2 n2 k2) (.slice a3 n3 k3),cdV c (.slice b1 n1 l1) (.slice b2 n2 l2) (.slice b3 n3 l3)] w fun e w' => Kept w w'∧e = .returned (.bool true):=by
 obtain ⟨cn,cnd,cr,⟨cm,cx⟩,ckd,cvs,css⟩:=c
 unfold cdV
 simp only
 have HC:=hid' (And.intro hc hd)
 have HLN:=hid' (show cnd.length≤1000000 by have h:n1 = cnd.length:=rs_len hc.nodes; omega)
 generalize bs cn = s1
 generalize bs cr = s3
 clear hc hd
 go_enter Tryz.func13,Tryz.ntmps13
 go_upto_region 1 with fail
 have hK:=((Kept.refl w).alloc (.cells #[.string s1,.slice a1 n1 k1,.string s3,.int .i64 cm,.int .i64 cx,.int .i64 ckd,.slice a2 n2 k2,.slice a3 n3 k3] 32)).alloc (.cells #[.string s1,.slice b1 n1 l1,.string s3,.int .i64 cm,.int .i64 cx,.int .i64 ckd,.slice b2 n2 l2,.slice b3 n3 l3] 32)
 have hA:=(RowL.alloc 32 w [.string s1,.slice a1 n1 k1,.string s3,.int .i64 cm,.int .i64 cx,.int .i64 ckd,.slice a2 n2 k2,.slice a3 n3 k3]).kept ((Kept.refl _).alloc (.cells #[.string s1,.slice b1 n1 l1,.string s3,.int .i64 cm,.int .i64 cx,.int .i64 ckd,.slice b2 n2 l2,.slice b3 n3 l3] 32))
 have hB:=RowL.alloc 32 (w.alloc (.cells #[.string s1,.slice a1 n1 k1,.string s3,.int .i64 cm,.int .i64 cx,.int .i64 ckd,.slice a2 n2 k2,.slice a3 n3 k3] 32)) [.string s1,.slice b1 n1 l1,.string s3,.int .i64 cm,.int .i64 cx,.int .i64 ckd,.slice b2 n2 l2,.slice b3 n3 l3]
 rw [World.size_alloc] at hB
 generalize (w.alloc (.cells #[.string s1,.slice a1 n1 k1,.string s3,.int .i64 cm,.int .i64 cx,.int .i64 ckd,.slice a2 n2 k2,.slice a3 n3 k3] 32)).alloc (.cells #[.string s1,.slice b1 n1 l1,.string s3,.int .i64 cm,.int .i64 cx,.int .i64 ckd,.slice b2 n2 l2,.slice b3 n3 l3] 32) = W0 at hK hA hB ⊢
 obtain ⟨q,hq⟩:∃ q,q = w.heap.size + 1:=⟨_,rfl⟩
 rw [← hq] at hB ⊢
 obtain ⟨p,hp⟩:∃ q,q = w.heap.size:=⟨_,rfl⟩
 rw [← hp] at hA ⊢
 have HW:=hid' (And.intro hK (And.intro hA hB))
 clear hK hA hB hq hp
 have f0:=HW.out.2.1.cell 0 (.string s1)
 have f1:=HW.out.2.1.cell 1 (.slice a1 n1 k1)
 have f2:=HW.out.2.1.cell 2 (.string s3)
 have f3:=HW.out.2.1.cell 3 (.int .i64 cm)
 have f4:=HW.out.2.1.cell 4 (.int .i64 cx)
 have f5:=HW.out.2.1.cell 5 (.int .i64 ckd)
 have f6:=HW.out.2.1.cell 6 (.slice a2 n2 k2)
 have f7:=HW.out.2.1.cell 7 (.slice a3 n3 k3)
 have g0:=HW.out.2.2.cell 0 (.string s1)
 have g1:=HW.out.2.2.cell 1 (.slice b1 n1 l1)
 have g2:=HW.out.2.2.cell 2 (.string s3)
 have g3:=HW.out.2.2.cell 3 (.int .i64 cm)
 have g4:=HW.out.2.2.cell 4 (.int .i64 cx)
 have g5:=HW.out.2.2.cell 5 (.int .i64 ckd)
 have g6:=HW.out.2.2.cell 6 (.slice b2 n2 l2)
 have g7:=HW.out.2.2.cell 7 (.slice b3 n3 l3)
 go_wp2_with fail
 refine (X.texts_any _ _ cnd cnd _ (HC.out.1.nodes.kept HW.out.1) (HC.out.2.nodes.kept HW.out.1) HLN.out).mono ?_
 rintro e w1 ⟨hk,rfl⟩
 rw [decide_eq_true (rfl:cnd = cnd)]
 have HW:=hid' (And.intro (HW.out.1.trans hk) (And.intro (HW.out.2.1.kept hk) (HW.out.2.2.kept hk)))
 clear f0 f1 f2 f3 f4 f5 f6 f7 g0 g1 g2 g3 g4 g5 g6 g7 hk
 have f0:=HW.out.2.1.cell 0 (.string s1)
 have f1:=HW.out.2.1.cell 1 (.slice a1 n1 k1)
 have f2:=HW.out.2.1.cell 2 (.string s3)
 have f3:=HW.out.2.1.cell 3 (.int .i64 cm)
 have f4:=HW.out.2.1.cell 4 (.int .i64 cx)
 have f5:=HW.out.2.1.cell 5 (.int .i64 ckd)
 have f6:=HW.out.2.1.cell 6 (.slice a2 n2 k2)
 have f7:=HW.out.2.1.cell 7 (.slice a3 n3 k3)
 have g0:=HW.out.2.2.cell 0 (.string s1)
 have g1:=HW.out.2.2.cell 1 (.slice b1 n1 l1)
 have g2:=HW.out.2.2.cell 2 (.string s3)
 have g3:=HW.out.2.2.cell 3 (.int .i64 cm)
 have g4:=HW.out.2.2.cell 4 (.int .i64 cx)
 have g5:=HW.out.2.2.cell 5 (.int .i64 ckd)
 have g6:=HW.out.2.2.cell 6 (.slice b2 n2 l2)
 have g7:=HW.out.2.2.cell 7 (.slice b3 n3 l3)
 go_wp2_with fail
 refine (same4_any ckd a2 a3 b2 b3 n2 k2 n3 k3 l2 l3 cvs css _ (HC.out.1.vals.kept HW.out.1) (HC.out.1.steps.kept HW.out.1) (HC.out.2.vals.kept HW.out.1) (HC.out.2.steps.kept HW.out.1) h2 h3).mono ?_
 rintro e w2 ⟨hk,rfl⟩
 have HK:=hid' (HW.out.1.trans hk)
 clear hk f0 f1 f2 f3 f4 f5 f6 f7 g0 g1 g2 g3 g4 g5 g6 g7
 go_wp2_with fail
 go_ret
 exact ⟨HK.out,rfl⟩
end V
end Go.Proofs.YtfddbkhfokeioaaGreatDoor

namespace Go.Proofs.YtfddbkhfokeioaaGreatDoor
open Go.RowKit
namespace V
open Q (hid' parseOf Lett ErrV Tab okN textOf)
open X (bs OwnS RS strs bs_list bs_size)
theorem own_keptK' {w w':World} {B:Nat} {v:Value} {ws:List (List UInt8)} (h:OwnS B w v ws) (k:Kept w w'):OwnS B w' v ws:=own_kept h (fun b hb => k.block b (h.lt b hb).2)
structure CwI (w wr:World) (p:Nat) (t:TypeId) (cs:List Value) (u:Value) (ws:List (List UInt8)):Prop where
 kp:Kept w wr
 le:p≤w.heap.size
 row:RowL t wr p cs
 own:OwnS (w.heap.size + 1) wr u ws
theorem CwI.kept {w wr wr':World} {p:Nat} {t:TypeId} {cs:List Value} {u:Value} {ws:List (List UInt8)} (h:CwI w wr p t cs u ws) (k:Kept wr wr'):CwI w wr' p t cs u ws:=⟨h.kp.trans k,h.le,h.row.kept k,own_keptK' h.own k⟩
theorem CwI.add {w wr W3 W4:World} {p:Nat} {t:TypeId} {cs:List Value} {u:Value} {ws news:List (List UInt8)} {g n cap:Nat} (h:CwI w wr p t cs u ws) (KA:Kept wr W3) (own4:W4.ownsRow (w.heap.size + 1) 9 1 (.slice (some ⟨g,0,none⟩) n cap) n (strs ws ++ strs news)) (hn:n = ws.length + news.length) (hg:W3.grownBy W4 u.ownBlock) :
  CwI w W4 p t cs (.slice (some ⟨g,0,none⟩) n cap) (ws ++ news):=by
 have h3:=h.kept KA
 refine ⟨Below.grown h3.kp hg h3.kp.size (fun k hk => by have:=(h3.own.lt k hk).1; omega),h.le,h3.row.block (hg.block p h3.row.lt (fun e => by have:=(h3.own.lt p e.symm).1; have:=h.le; omega)),?_⟩
 unfold OwnS
 rw [X.strs_app,List.length_append,← hn]
 exact own4
def WwIs (k:Int) (xv sv:Value) (vs:List (Int × Int)) (ss:List Int) (w:World):Prop:=∀ V,Kept w V→Calls Tryz.prog 85 #[.agg #[.int .i64 k,xv,sv]] V fun e w' => Kept V w'∧∃ u,e = .returned u∧RS w' u (wwords k vs ss)
theorem wave_not (c:UInt8) (h:refC c = true ∨ valueC c = true):waveC c = false:=by
 rcases h with h | h
 ·
  have h1:=of_decide_eq_true h
  simp only [List.mem_cons,List.not_mem_nil,or_false] at h1
  rcases h1 with rfl | rfl | rfl | rfl | rfl <;> decide
 ·
  have h1:=of_decide_eq_true h
  simp only [List.mem_cons,List.not_mem_nil,or_false] at h1
  rcases h1 with rfl | rfl | rfl | rfl | rfl | rfl | rfl | rfl <;> decide
theorem lit_own (w:World) (B:Nat) (s:ByteArray) (hB:B≤w.heap.size):OwnS B (w.alloc (.cells #[.string s] 9)) (.slice (some ⟨w.heap.size,0,none⟩) 1 1) [s.data.toList]:=by
 refine ⟨rfl,.inr ⟨w.heap.size,1,#[.string s],rfl,hB,?_,Nat.le_refl _,by unfold maxLen; omega,rfl,rfl⟩⟩
 show (w.heap.push _)[w.heap.size]? = _
 simp
set_option maxRecDepth 100000 in
set_option maxHeartbeats 8000000 in
theorem cardWords_plain (a1 a2 a3:Option Addr) (n1 k1 n2 k2 n3 k3:Nat) (c:Cd) (w:World) (hL:Lett w) (hT:Tab w) (hc:CdR w a1 n1 k1 a2 n2 k2 a3 n3 k3 c) (hh:0 < c.name.length) (hl:(n1 + 1000) * 16≤140737488355328) (hw:waveC (c.name.getD 0 0) = false) :
  Calls Tryz.prog 47 #[cdV c (.slice a1 n1 k1) (.slice a2 n2 k2) (.slice a3 n3 k3)] w fun e w' => Kept w w'∧∃ u,e = .returned u∧OwnS w.heap.size w' u (cwords c):=by
 obtain ⟨cn,cnd,cr,⟨cm,cx⟩,ckd,cvs,css⟩:=c
 unfold cdV
 simp only at hh hw ⊢
 have HC:=hid' (And.intro hc (And.intro hL (And.intro hT (And.intro hh hw))))
 have HLN:=hid' (show n1 = cnd.length from rs_len hc.nodes)
 obtain ⟨s1,hs1⟩:∃ s,s = bs cn:=⟨_,rfl⟩
 obtain ⟨s3,hs3⟩:∃ s,s = bs cr:=⟨_,rfl⟩
 rw [← hs1,← hs3]
 have HE:=hid' (And.intro hs1 hs3)
 clear hs1 hs3 hc hL hT hh hw
 obtain ⟨i0,hi,hz0,hz1,hz2⟩:=info_parts X.info_str
 go_enter Tryz.func47,Tryz.ntmps47
 go_wp2_with fail
 have hK:=(Kept.refl w).alloc (.cells #[.string s1,.slice a1 n1 k1,.string s3,.int .i64 cm,.int .i64 cx,.int .i64 ckd,.slice a2 n2 k2,.slice a3 n3 k3] 32)
 have hA:=RowL.alloc 32 w [.string s1,.slice a1 n1 k1,.string s3,.int .i64 cm,.int .i64 cx,.int .i64 ckd,.slice a2 n2 k2,.slice a3 n3 k3]
 generalize w.alloc (.cells #[.string s1,.slice a1 n1 k1,.string s3,.int .i64 cm,.int .i64 cx,.int .i64 ckd,.slice a2 n2 k2,.slice a3 n3 k3] 32) = W0 at hK hA ⊢
 obtain ⟨p,hp⟩:∃ q,q = w.heap.size:=⟨_,rfl⟩
 rw [← hp] at hA ⊢
 refine (anew_any s1 _).mono ?_
 rintro e w1 ⟨hk1,rfl⟩
 have hA:=hA.kept hk1
 have f1:=hA.cell 1 (.slice a1 n1 k1)
 have f1':=(hA.kept ((Kept.refl w1).alloc (.cells #[.string s1] 9))).cell 1 (.slice a1 n1 k1)
 have HP:=hid' hp
 have HW:=hid' (And.intro (hK.trans hk1) hA)
 clear hK hA hk1 hp
 go_wp2_with fail
 have HI0:Hid (CwI w _ p 32 [.string s1,.slice a1 n1 k1,.string s3,.int .i64 cm,.int .i64 cx,.int .i64 ckd,.slice a2 n2 k2,.slice a3 n3 k3] (.slice (some ⟨w1.heap.size,0,none⟩) 1 1) [s1.data.toList]):=⟨HW.out.1.alloc (.cells #[.string s1] 9),by rw [HP.out]; exact Nat.le_refl _,HW.out.2.kept ((Kept.refl w1).alloc (.cells #[.string s1] 9)),lit_own w1 _ s1 (by have:=HW.out.2.lt; have:=HP.out; omega)⟩
 generalize w1.alloc (.cells #[.string s1] 9) = W1 at HI0 f1' ⊢
 generalize (Value.slice (some ⟨w1.heap.size,0,none⟩) 1 1) = u0 at HI0 ⊢
 go_loopw [3,14] (fun vu vi wr => ∃ k:Nat,k≤n1∧vi = .int .i64 (k:Int)∧Hid (CwI w wr p 32 [.string s1,.slice a1 n1 k1,.string s3,.int .i64 cm,.int .i64 cx,.int .i64 ckd,.slice a2 n2 k2,.slice a3 n3 k3] vu ([s1.data.toList] ++ cnd.take k))) (fun _ vi _ => n1 - (intOf vi).toNat)
 case atStart => exact ⟨0,Nat.zero_le _,rfl,by rw [List.take_zero,List.append_nil]; exact HI0.out⟩
 case round =>
  obtain ⟨k,hk,rfl,HI⟩:=hrel
  clear HI0
  by_cases hkt:k < n1
  ·
   have hki:(k:Int) < (n1:Int):=by omega
   obtain ⟨ao',c',hv',hx⟩:=HC.out.1.nodes.kept HI.out.kp
   simp only [Value.slice.injEq] at hv'
   obtain ⟨rfl,hnw0,rfl⟩:=hv'
   clear hnw0
   have hnw:n1 = cnd.length:=HLN.out
   obtain ⟨b,off,rfl,hb,hcl⟩:=hx (show 0 < cnd.length by omega)
   have q0:wr.cell? ⟨b,off + k,none⟩ = some (.string (bs (cnd.getD k []))):=hcl k (show k < cnd.length by omega)
   obtain ⟨sk,hsk⟩:∃ s,s = bs (cnd.getD k []):=⟨_,rfl⟩
   rw [← hsk] at q0
   have HTK:=hid' (show [s1.data.toList] ++ cnd.take k ++ [sk.data.toList] = [s1.data.toList] ++ cnd.take (k + 1) by
    rw [hsk,bs_list,List.append_assoc,List.take_succ_eq_append_getElem (by omega)]
    simp [List.getElem?_eq_getElem (show k < cnd.length by omega)])
   obtain ⟨wk,hwk⟩:∃ l,l = [s1.data.toList] ++ cnd.take k:=⟨_,rfl⟩
   rw [← hwk] at HI HTK
   have HLW:=hid' (show wk.length≤n1 + 1 by rw [hwk,List.length_append,List.length_take]; simp; omega)
   clear hx hcl hnw hsk hwk
   go_wp2_with fail
   refine (anew_any sk _).mono ?_
   rintro e w2 ⟨hk2,rfl⟩
   have HI:=hid' (HI.out.kept hk2)
   clear hk2
   have KA:=(Kept.refl w2).alloc (.cells #[.string sk] 9)
   go_wp2_with (at_builtin; refine wpList_append_lies _ rfl (.tmp 18) (.tmp 21) 22 rfl (w.heap.size + 1) 9 i0 (.string ByteArray.empty) 1 16 X.und_strs hi hz0 hz1 hz2 rfl (by decide) u3 wk.length (strs wk) rfl (by exact (HI.out.kept KA).own) ⟨w2.heap.size,0,none⟩ 1 1 [.string sk] rfl rfl (X.cell_new w2 _ _) (fun u hu => by simp at hu; subst hu; rfl) (by omega) (by have:=HLW.out; unfold maxLen; omega) (by have:=HLW.out; omega) (by have:=HI.out.kp.size; have:=HI.out.row.lt; have:=HI.out.le; have:=HP.out; simp; omega) _ rfl ?_)
   intro g4 cap4 W4 own4 hg4 hgg _
   have HI:=hid' (HI.out.add (news:=[sk.data.toList]) KA own4 rfl hg4)
   clear own4 hg4 hgg KA
   go_wp2_with fail
   go_roundw
   case rel => exact ⟨k + 1,by omega,by go_num,by rw [← HTK.out]; exact HI.out⟩
   case measure => show n1 - ((k:Int) + 1).toNat < n1 - (k:Int).toNat; omega
  ·
   have hki:¬ (k:Int) < (n1:Int):=by omega
   obtain rfl:k = n1:=by omega
   rw [List.take_of_length_le (by rw [← HLN.out]; exact Nat.le_refl _)] at HI
   have f0:=HI.out.row.cell 0 (.string s1)
   have hs1:0 < s1.size:=by rw [HE.out.1,bs_size]; exact HC.out.2.2.2.1
   have hs1':(0:Int) < (s1.size:Int):=by omega
   have HQ:=hid' (show s1[0] = cn.getD 0 0 from head_of hs1 HE.out.1)
   have HCW:=hid' (show cwords ⟨cn,cnd,cr,(cm,cx),ckd,cvs,css⟩ = [s1.data.toList] ++ cnd ++ (if refC s1[0] = true then [cr] else []) ++ (if valueC s1[0] = true then [tx (cm,cx)] else []) ++ (if waveC s1[0] = true then wwords ckd cvs css else []) by
    unfold cwords
    rw [HQ.out,HE.out.1,bs_list])
   go_wp2_with fail
   refine (among_is s1[0] ⟨#[102,104,100,115,120]⟩ [102,104,100,115,120] _ rfl).mono ?_
   rintro e w2 ⟨rfl,rfl⟩
   rw [show decide (s1[0] ∈ ([102,104,100,115,120]:List UInt8)) = refC s1[0] from rfl]
   obtain ⟨sv,hsv⟩:∃ s,s = bs (tx (cm,cx)):=⟨_,rfl⟩
   have HLW:=hid' (show ([s1.data.toList] ++ cnd).length≤k + 1 by rw [List.length_append,← HLN.out]; simp only [List.length_cons,List.length_nil]; omega)
   have HSV:=hid' hsv
   clear hsv
   have f2:=HI.out.row.cell 2 (.string s3)
   have f3:=HI.out.row.cell 3 (.int .i64 cm)
   have f4:=HI.out.row.cell 4 (.int .i64 cx)
   have f5:=HI.out.row.cell 5 (.int .i64 ckd)
   have f6:=HI.out.row.cell 6 (.slice a2 n2 k2)
   have f7:=HI.out.row.cell 7 (.slice a3 n3 k3)
   cases hr:refC s1[0]
   ·
    go_wp2_with fail
    refine (among_is s1[0] ⟨#[114,99,108,101,103,102,104,116]⟩ [114,99,108,101,103,102,104,116] _ rfl).mono ?_
    rintro e WV ⟨rfl,rfl⟩
    rw [show decide (s1[0] ∈ ([114,99,108,101,103,102,104,116]:List UInt8)) = valueC s1[0] from rfl]
    cases hv:valueC s1[0]
    ·
     go_wp2_with fail
     refine (among_is s1[0] ⟨#[118,105]⟩ [118,105] _ rfl).mono ?_
     rintro e WV ⟨rfl,rfl⟩
     rw [show decide (s1[0] ∈ ([118,105]:List UInt8)) = waveC s1[0] from rfl]
     cases hw:waveC s1[0]
     ·
      have HFW:=hid' (show cwords ⟨cn,cnd,cr,(cm,cx),ckd,cvs,css⟩ = [s1.data.toList] ++ cnd by rw [HCW.out,hr,hv,hw]; simp)
      go_wp2_with fail
      go_ret
      exact ⟨HI.out.kp,_,rfl,by rw [HFW.out]; exact own_mono HI.out.own (Nat.le_succ _)⟩
     ·
      exact absurd (show waveC (cn.getD 0 0) = true by rw [← HQ.out]; exact hw) (by rw [HC.out.2.2.2.2]; decide)
    ·
     have hw:=wave_not s1[0] (.inr hv)
     go_wp2_with fail
     refine (ctext_any cm cx _ (HC.out.2.1.kept HI.out.kp) (HC.out.2.2.1.kept HI.out.kp)).mono ?_
     rintro e w4 ⟨hk4,rfl⟩
     have HI:=hid' (HI.out.kept hk4)
     rw [← HSV.out]
     clear f0 f2 f3 f4 f5 f6 f7
     clear hk4
     have KA:=(Kept.refl w4).alloc (.cells #[.string sv] 9)
     go_wp2_with (at_builtin; refine wpList_append_lies _ rfl (.tmp 37) (.tmp 41) 22 rfl (w.heap.size + 1) 9 i0 (.string ByteArray.empty) 1 16 X.und_strs hi hz0 hz1 hz2 rfl (by decide) u3 ([s1.data.toList] ++ cnd).length (strs ([s1.data.toList] ++ cnd)) rfl (by exact (HI.out.kept KA).own) ⟨w4.heap.size,0,none⟩ 1 1 [.string sv] rfl rfl (X.cell_new w4 _ _) (fun u hu => by simp at hu; subst hu; rfl) (by omega) (by have:=HLW.out; unfold maxLen; omega) (by have:=HLW.out; omega) (by have:=HI.out.kp.size; have:=HI.out.row.lt; have:=HI.out.le; have:=HP.out; simp; omega) _ rfl ?_)
     intro g4 cap4 W4 own4 hg4 hgg _
     have HI:=hid' (HI.out.add (news:=[sv.data.toList]) KA own4 rfl hg4)
     clear own4 hg4 hgg KA
     have f0:=HI.out.row.cell 0 (.string s1)
     have f2:=HI.out.row.cell 2 (.string s3)
     have f3:=HI.out.row.cell 3 (.int .i64 cm)
     have f4:=HI.out.row.cell 4 (.int .i64 cx)
     have f5:=HI.out.row.cell 5 (.int .i64 ckd)
     have f6:=HI.out.row.cell 6 (.slice a2 n2 k2)
     have f7:=HI.out.row.cell 7 (.slice a3 n3 k3)
     go_wp2_with fail
     refine (among_is s1[0] ⟨#[118,105]⟩ [118,105] _ rfl).mono ?_
     rintro e WV ⟨rfl,rfl⟩
     rw [show decide (s1[0] ∈ ([118,105]:List UInt8)) = waveC s1[0] from rfl]
     rw [hw]
     have HFW:=hid' (show cwords ⟨cn,cnd,cr,(cm,cx),ckd,cvs,css⟩ = [s1.data.toList] ++ cnd ++ [sv.data.toList] by rw [HCW.out,hr,hv,hw]; simp [HSV.out,bs_list])
     go_wp2_with fail
     go_ret
     exact ⟨HI.out.kp,_,rfl,by rw [HFW.out]; exact own_mono HI.out.own (Nat.le_succ _)⟩
   ·
    have hw:=wave_not s1[0] (.inl hr)
    go_wp2_with fail
    refine (anew_any s3 _).mono ?_
    rintro e w3 ⟨hk3,rfl⟩
    have HI:=hid' (HI.out.kept hk3)
    clear f0 f2 f3 f4 f5 f6 f7
    clear hk3
    have KA:=(Kept.refl w3).alloc (.cells #[.string s3] 9)
    go_wp2_with (at_builtin; refine wpList_append_lies _ rfl (.tmp 29) (.tmp 33) 22 rfl (w.heap.size + 1) 9 i0 (.string ByteArray.empty) 1 16 X.und_strs hi hz0 hz1 hz2 rfl (by decide) u3 ([s1.data.toList] ++ cnd).length (strs ([s1.data.toList] ++ cnd)) rfl (by exact (HI.out.kept KA).own) ⟨w3.heap.size,0,none⟩ 1 1 [.string s3] rfl rfl (X.cell_new w3 _ _) (fun u hu => by simp at hu; subst hu; rfl) (by omega) (by have:=HLW.out; unfold maxLen; omega) (by have:=HLW.out; omega) (by have:=HI.out.kp.size; have:=HI.out.row.lt; have:=HI.out.le; have:=HP.out; simp; omega) _ rfl ?_)
    intro g4 cap4 W4 own4 hg4 hgg _
    have HI:=hid' (HI.out.add (news:=[s3.data.toList]) KA own4 rfl hg4)
    clear own4 hg4 hgg KA
    have f0:=HI.out.row.cell 0 (.string s1)
    have f2:=HI.out.row.cell 2 (.string s3)
    have f3:=HI.out.row.cell 3 (.int .i64 cm)
    have f4:=HI.out.row.cell 4 (.int .i64 cx)
    have f5:=HI.out.row.cell 5 (.int .i64 ckd)
    have f6:=HI.out.row.cell 6 (.slice a2 n2 k2)
    have f7:=HI.out.row.cell 7 (.slice a3 n3 k3)
    go_wp2_with fail
    refine (among_is s1[0] ⟨#[114,99,108,101,103,102,104,116]⟩ [114,99,108,101,103,102,104,116] _ rfl).mono ?_
    rintro e WV ⟨rfl,rfl⟩
    rw [show decide (s1[0] ∈ ([114,99,108,101,103,102,104,116]:List UInt8)) = valueC s1[0] from rfl]
    cases hv:valueC s1[0]
    ·
     go_wp2_with fail
     refine (among_is s1[0] ⟨#[118,105]⟩ [118,105] _ rfl).mono ?_
     rintro e WV ⟨rfl,rfl⟩
     rw [show decide (s1[0] ∈ ([118,105]:List UInt8)) = waveC s1[0] from rfl]
     rw [hw]
     have HFW:=hid' (show cwords ⟨cn,cnd,cr,(cm,cx),ckd,cvs,css⟩ = [s1.data.toList] ++ cnd ++ [s3.data.toList] by rw [HCW.out,hr,hv,hw]; simp [HE.out.2,bs_list])
     go_wp2_with fail
     go_ret
     exact ⟨HI.out.kp,_,rfl,by rw [HFW.out]; exact own_mono HI.out.own (Nat.le_succ _)⟩
    ·
     have HLW:=hid' (show ([s1.data.toList] ++ cnd ++ [s3.data.toList]).length≤k + 2 by rw [List.length_append]; have:=HLW.out; simp only [List.length_cons,List.length_nil]; omega)
     go_wp2_with fail
     refine (ctext_any cm cx _ (HC.out.2.1.kept HI.out.kp) (HC.out.2.2.1.kept HI.out.kp)).mono ?_
     rintro e w4 ⟨hk4,rfl⟩
     have HI:=hid' (HI.out.kept hk4)
     rw [← HSV.out]
     clear f0 f2 f3 f4 f5 f6 f7
     clear hk4
     have KA:=(Kept.refl w4).alloc (.cells #[.string sv] 9)
     go_wp2_with (at_builtin; refine wpList_append_lies _ rfl (.tmp 37) (.tmp 41) 22 rfl (w.heap.size + 1) 9 i0 (.string ByteArray.empty) 1 16 X.und_strs hi hz0 hz1 hz2 rfl (by decide) (.slice (some ⟨g4,0,none⟩) (([s1.data.toList] ++ cnd).length + 1) cap4) ([s1.data.toList] ++ cnd ++ [s3.data.toList]).length (strs ([s1.data.toList] ++ cnd ++ [s3.data.toList])) rfl (by exact (HI.out.kept KA).own) ⟨w4.heap.size,0,none⟩ 1 1 [.string sv] rfl rfl (X.cell_new w4 _ _) (fun u hu => by simp at hu; subst hu; rfl) (by omega) (by have:=HLW.out; unfold maxLen; omega) (by have:=HLW.out; omega) (by have:=HI.out.kp.size; have:=HI.out.row.lt; have:=HI.out.le; have:=HP.out; simp; omega) _ rfl ?_)
     intro g4 cap4 W4 own4 hg4 hgg _
     have HI:=hid' (HI.out.add (news:=[sv.data.toList]) KA own4 (by simp) hg4)
     clear own4 hg4 hgg KA
     have f0:=HI.out.row.cell 0 (.string s1)
     have f2:=HI.out.row.cell 2 (.string s3)
     have f3:=HI.out.row.cell 3 (.int .i64 cm)
     have f4:=HI.out.row.cell 4 (.int .i64 cx)
     have f5:=HI.out.row.cell 5 (.int .i64 ckd)
     have f6:=HI.out.row.cell 6 (.slice a2 n2 k2)
     have f7:=HI.out.row.cell 7 (.slice a3 n3 k3)
     go_wp2_with fail
     refine (among_is s1[0] ⟨#[118,105]⟩ [118,105] _ rfl).mono ?_
     rintro e WV ⟨rfl,rfl⟩
     rw [show decide (s1[0] ∈ ([118,105]:List UInt8)) = waveC s1[0] from rfl]
     rw [hw]
     have HFW:=hid' (show cwords ⟨cn,cnd,cr,(cm,cx),ckd,cvs,css⟩ = [s1.data.toList] ++ cnd ++ [s3.data.toList] ++ [sv.data.toList] by rw [HCW.out,hr,hv,hw]; simp [HE.out.2,HSV.out,bs_list])
     go_wp2_with fail
     go_ret
     exact ⟨HI.out.kp,_,rfl,by rw [HFW.out]; exact own_mono HI.out.own (Nat.le_succ _)⟩
end V
end Go.Proofs.YtfddbkhfokeioaaGreatDoor

namespace Go.Proofs.YtfddbkhfokeioaaGreatDoor
open Go.RowKit
namespace V
open Q (hid' parseOf Lett ErrV Tab okN textOf)
open X (bs OwnS RS strs bs_list bs_size)
def WrIs (B:Nat) (w:World) (e:Ending):Option (List (List UInt8))→Prop
 | none => e = .returned (.tuple #[.slice none 0 0,.int .i64 70])
 | some ws => ∃ u,e = .returned (.tuple #[u,.int .i64 0])∧OwnS B w u ws
def writeB (c:Cd) (ws:List (List UInt8)):Except Int Cd→Option (List (List UInt8))
 | .ok d => if d = c then some ws else none
 | .error _ => none
theorem writeC_dev {c:Cd} (h:devB c.name = true):writeC c = writeB c (cwords c) (readC (cwords c)):=by
 unfold writeC
 rw [if_pos h]
 cases readC (cwords c) <;> rfl
theorem len_max {B:Nat} {w:World} {e:TypeId} {sz n:Nat} {v:Value} {xs:List Value} (h:w.ownsRow B e sz v n xs):n≤9223372036854775807:=by
 obtain ⟨_,⟨_,h3⟩ | ⟨g,cap,cur,h2,_,_,hn,hm,_⟩⟩:=h
 ·
  omega
 ·
  exact Nat.le_trans hn hm
theorem own_cap {B:Nat} {w:World} {v:Value} {ws:List (List UInt8)} (h:OwnS B w v ws):∃ ao cap,v = .slice ao ws.length cap∧ws.length≤cap∧cap≤9223372036854775807:=by
 obtain ⟨_,⟨h2,h3⟩ | ⟨g,cap,cur,h2,_,_,hn,hm,_⟩⟩:=h
 ·
  exact ⟨none,0,by rw [h2,h3],by omega,by omega⟩
 ·
  exact ⟨_,_,h2,hn,hm⟩
set_option maxRecDepth 100000 in
set_option maxHeartbeats 8000000 in
theorem write_plain (a1 a2 a3:Option Addr) (n1 k1 n2 k2 n3 k3:Nat) (c:Cd) (w:World) (hL:Lett w) (hE:ErrV w) (hT:Tab w) (hc:CdR w a1 n1 k1 a2 n2 k2 a3 n3 k3 c) (hl:(n1 + 1000) * 16≤140737488355328) (hw:waveC (c.name.getD 0 0) = false) (hs:∀ x ∈ cwords c,x.length≤9223372036854775807) (hsn:c.name.length≤9223372036854775807) :
  Calls Tryz.prog 22 #[cdV c (.slice a1 n1 k1) (.slice a2 n2 k2) (.slice a3 n3 k3)] w fun e w' => Kept w w'∧WrIs w.heap.size w' e (writeC c):=by
 have HC:=hid' (And.intro hc (And.intro hL (And.intro hT (And.intro hE (And.intro hw hs)))))
 obtain ⟨r,hr⟩:∃ r,r = writeC c:=⟨_,rfl⟩
 rw [← hr]
 have HR:=hid' hr
 have hdev:=fun V => cdev_any (bs c.name) V (by rw [bs_size]; exact hsn)
 rw [bs_list] at hdev
 have hcw:=fun V (K:Kept w V) (hh:0 < c.name.length) => cardWords_plain a1 a2 a3 n1 k1 n2 k2 n3 k3 c V (hL.kept K) (hT.kept K) (hc.kept K) hh hl hw
 clear hr hc hL hE hT hw hs hsn
 obtain ⟨cn,cnd,cr,⟨cm,cx⟩,ckd,cvs,css⟩:=c
 unfold cdV at hcw ⊢
 simp only at hdev hcw ⊢
 obtain ⟨s1,hs1⟩:∃ s,s = bs cn:=⟨_,rfl⟩
 obtain ⟨s3,hs3⟩:∃ s,s = bs cr:=⟨_,rfl⟩
 rw [← hs1,← hs3] at hcw ⊢
 rw [← hs1] at hdev
 have HE:=hid' (And.intro hs1 hs3)
 clear hs1 hs3
 cases hd:devB cn
 ·
  rw [hd] at hdev
  have HF:=hid' (show r = none by rw [HR.out]; unfold writeC; rw [if_neg (by rw [hd]; decide)])
  clear hcw
  go_enter Tryz.func22,Tryz.ntmps22
  go_wp2_with fail
  refine (hdev _).mono ?_
  rintro e w1 ⟨rfl,rfl⟩
  go_wp2_with fail
  go_ret2
  exact ⟨(Kept.refl _).alloc _,by rw [HF.out]; rfl⟩
 ·
  rw [hd] at hdev
  have hh:0 < cn.length:=by
   have h1:=dev_pos (s:=bs cn) (by rw [bs_list]; exact hd)
   rwa [bs_size] at h1
  have HD:=hid' hd
  have hcw2:=fun V (K:Kept w V) => hcw V K hh
  clear hcw hd hh
  go_enter Tryz.func22,Tryz.ntmps22
  go_wp2_with fail
  refine (hdev _).mono ?_
  rintro e w1 ⟨rfl,rfl⟩
  go_wp2_with fail
  have hK:=(Kept.refl w).alloc (.cells #[.string s1,.slice a1 n1 k1,.string s3,.int .i64 cm,.int .i64 cx,.int .i64 ckd,.slice a2 n2 k2,.slice a3 n3 k3] 32)
  have hA:=RowL.alloc 32 w [.string s1,.slice a1 n1 k1,.string s3,.int .i64 cm,.int .i64 cx,.int .i64 ckd,.slice a2 n2 k2,.slice a3 n3 k3]
  generalize w.alloc (.cells #[.string s1,.slice a1 n1 k1,.string s3,.int .i64 cm,.int .i64 cx,.int .i64 ckd,.slice a2 n2 k2,.slice a3 n3 k3] 32) = W0 at hK hA ⊢
  obtain ⟨p,hp⟩:∃ q,q = w.heap.size:=⟨_,rfl⟩
  rw [← hp] at hA ⊢
  clear hp
  refine (hcw2 _ hK).mono ?_
  rintro e w2 ⟨hk2,u,rfl,ou⟩
  obtain ⟨ao,cap,rfl,hcap,hcap2⟩:=own_cap ou
  have HW:=hid' (And.intro (hK.trans hk2) (And.intro (hA.kept hk2) (And.intro (own_mono ou hK.size) ou)))
  have hrd:=readC_any ao (cwords ⟨cn,cnd,cr,(cm,cx),ckd,cvs,css⟩).length cap (cwords ⟨cn,cnd,cr,(cm,cx),ckd,cvs,css⟩) w2 (HC.out.2.1.kept HW.out.1) (HC.out.2.2.2.1.kept HW.out.1) (X.OwnS.rs ou) hcap hcap2 HC.out.2.2.2.2.2
  have HR2:=hid' (show r = writeB ⟨cn,cnd,cr,(cm,cx),ckd,cvs,css⟩ (cwords ⟨cn,cnd,cr,(cm,cx),ckd,cvs,css⟩) (readC (cwords ⟨cn,cnd,cr,(cm,cx),ckd,cvs,css⟩)) from HR.out.trans (writeC_dev HD.out))
  generalize hws:cwords ⟨cn,cnd,cr,(cm,cx),ckd,cvs,css⟩ = ws at hrd HW HR2 ⊢
  obtain ⟨n,hn⟩:∃ n,n = ws.length:=⟨_,rfl⟩
  rw [← hn] at hrd HW ⊢
  have HNN:=hid' hn
  generalize hrc:readC ws = rc at hrd HR2
  clear hK hA hk2 ou hcw2 hdev hws hn hcap hcap2 hrc
  go_wp2_with fail
  refine hrd.mono ?_
  rintro e w3 ⟨hk3,hres⟩
  clear hrd
  have HW:=hid' (And.intro (HW.out.1.trans hk3) (And.intro (HW.out.2.1.kept hk3) (own_kept HW.out.2.2.1 (fun b hb => hk3.block b (HW.out.2.2.1.lt b hb).2))))
  clear hk3
  cases rc with
  | error x =>
   obtain ⟨rfl,hx0⟩:=hres
   have hx0':(x == 0) = false:=by simpa using hx0
   unfold zeroCd
   have HF:=hid' (show r = none from HR2.out)
   go_wp2_with fail
   go_ret2
   exact ⟨HW.out.1.alloc _,by rw [HF.out]; rfl⟩
  | ok d =>
   obtain ⟨v,rfl,nv,xv,sv,rfl,o1,o2,o3⟩:=hres
   obtain ⟨b1,l1,rfl⟩:=own_shape o1
   obtain ⟨b2,l2,rfl⟩:=own_shape o2
   obtain ⟨b3,l3,rfl⟩:=own_shape o3
   have hsm:=fun V (K:Kept w3 V) => csame_any b1 b2 b3 a1 a2 a3 d.nodes.length l1 d.vals.length l2 d.steps.length l3 n1 k1 n2 k2 n3 k3 d ⟨cn,cnd,cr,(cm,cx),ckd,cvs,css⟩ V ⟨(X.OwnS.rs o1).kept K,(OwnN.nsl o2).kept K,(OwnI.isl o3).kept K⟩ (HC.out.1.kept (HW.out.1.trans K)) (len_max o1) (len_max o2) (len_max o3)
   have HR3:=hid' (show r = if d = ⟨cn,cnd,cr,(cm,cx),ckd,cvs,css⟩ then some ws else none from HR2.out)
   generalize hdc:decide (d = ⟨cn,cnd,cr,(cm,cx),ckd,cvs,css⟩) = bb at hsm
   have HDC:=hid' hdc
   clear hdc o1 o2 o3
   obtain ⟨dn,dnd,dr,⟨dm,dx⟩,dkd,dvs,dss⟩:=d
   unfold cdV at hsm ⊢
   simp only at hsm ⊢
   rw [← HE.out.1,← HE.out.2] at hsm
   generalize bs dn = t1 at hsm ⊢
   generalize bs dr = t3 at hsm ⊢
   generalize dnd.length = d1 at hsm ⊢
   generalize dvs.length = d2 at hsm ⊢
   generalize dss.length = d3 at hsm ⊢
   have kB:=(Kept.refl w3).alloc (.cells #[.string t1,.slice b1 d1 l1,.string t3,.int .i64 dm,.int .i64 dx,.int .i64 dkd,.slice b2 d2 l2,.slice b3 d3 l3] 32)
   have hA:=HW.out.2.1.kept kB
   have g0:=hA.cell 0 (.string s1)
   have g1:=hA.cell 1 (.slice a1 n1 k1)
   have g2:=hA.cell 2 (.string s3)
   have g3:=hA.cell 3 (.int .i64 cm)
   have g4:=hA.cell 4 (.int .i64 cx)
   have g5:=hA.cell 5 (.int .i64 ckd)
   have g6:=hA.cell 6 (.slice a2 n2 k2)
   have g7:=hA.cell 7 (.slice a3 n3 k3)
   clear hA
   cases bb
   ·
    have HF:=hid' (show r = none by rw [HR3.out,if_neg (of_decide_eq_false HDC.out)])
    go_wp2_with fail
    refine (hsm _ kB).mono ?_
    rintro e w4 ⟨hk4,rfl⟩
    have HK:=hid' (HW.out.1.trans (kB.trans hk4))
    clear hsm kB hk4 g0 g1 g2 g3 g4 g5 g6 g7
    go_wp2_with fail
    go_ret2
    exact ⟨HK.out,by rw [HF.out]; rfl⟩
   ·
    have HF:=hid' (show r = some ws by rw [HR3.out,if_pos (of_decide_eq_true HDC.out)])
    go_wp2_with fail
    refine (hsm _ kB).mono ?_
    rintro e w4 ⟨hk4,rfl⟩
    have HK:=hid' (And.intro (HW.out.1.trans (kB.trans hk4)) (own_kept HW.out.2.2 (fun b hb => (kB.trans hk4).block b (HW.out.2.2.lt b hb).2)))
    clear hsm kB hk4 g0 g1 g2 g3 g4 g5 g6 g7
    go_wp2_with fail
    go_ret2
    exact ⟨HK.out.1,by rw [HF.out]; exact ⟨_,rfl,by unfold OwnS; rw [← HNN.out]; exact HK.out.2⟩⟩
end V
end Go.Proofs.YtfddbkhfokeioaaGreatDoor

namespace Go.Proofs.YtfddbkhfokeioaaGreatDoor
open Go.RowKit
namespace V
open Q (hid' parseOf Lett ErrV Tab okN textOf)
open X (bs OwnS RS strs bs_list bs_size)
theorem rs_lit (w:World) (ws:List (List UInt8)) (n:Nat) (hn:n = ws.length):RS (w.alloc (.cells (strs ws).toArray 9)) (.slice (some ⟨w.heap.size,0,none⟩) n n) ws:=by
 subst hn
 refine ⟨_,_,rfl,fun _ => ⟨w.heap.size,0,rfl,by simp,fun j hj => ?_⟩⟩
 have hr:=World.rowIs_alloc w (strs ws).toArray 9 (fun i => .string (bs (ws.getD i []))) (fun i hi => by
  have hi':i < ws.length:=by simpa [strs] using hi
  have:=X.strs_at ws i hi'
  simpa using this)
 rw [Nat.zero_add]
 exact hr.cell (by simpa [strs] using hj)
def awW:List (List UInt8):=[[114,49],[97],[48],[52,46,55,107]]
def awC:Cd:=⟨[114,49],[[97],[48]],[],(47,2),0,[],[]⟩
def awT:List (List UInt8):=[[114,49],[97],[48],[52,55,48,48]]
def awM:List (List UInt8):=[[46,109,111,100,101,108],[100,49],[100],[49,117],[48,46,55],[49,48,48,109]]
def awD:Md:=⟨[100,49],100,[(1,-6),(1,-1)],[(7,-1)]⟩
theorem aw1:readC awW = .ok awC:=by kernel_rfl
theorem aw2:writeC awC = some awT:=by kernel_rfl
theorem aw3:readM awM = .ok awD:=by kernel_rfl
theorem aw4:cwords awC = awT:=by kernel_rfl
set_option maxRecDepth 100000 in
set_option maxHeartbeats 8000000 in
theorem awake7_any (w:World) (hL:Lett w) (hE:ErrV w) (hT:Tab w):Calls Tryz.prog 9 #[] w fun e w' => Kept w w'∧e = .returned (.bool true):=by
 have HG:=hid' (And.intro hL (And.intro hE hT))
 clear hL hE hT
 go_enter Tryz.func9,Tryz.ntmps9
 go_wp2_with fail
 have hk0:=(Kept.refl w).alloc (.cells (strs awW).toArray 9)
 have hrs:=rs_lit w awW 4 rfl
 have hrd:=readC_any (some ⟨w.heap.size,0,none⟩) 4 4 awW _ (HG.out.1.kept hk0) (HG.out.2.1.kept hk0) hrs (Nat.le_refl _) (by omega) (by decide)
 rw [aw1] at hrd
 refine hrd.mono ?_
 rintro e w1 ⟨hk1,hres⟩
 obtain ⟨v,rfl,nv,xv,sv,rfl,o1,o2,o3⟩:=hres
 have HK:=hid' (hk0.trans hk1)
 clear hk0 hk1 hrs hrd
 obtain ⟨b1,l1,rfl⟩:=own_shape o1
 obtain ⟨b2,l2,rfl⟩:=own_shape o2
 obtain ⟨b3,l3,rfl⟩:=own_shape o3
 have HO:=hid' (show CdR w1 b1 2 l1 b2 0 l2 b3 0 l3 awC from ⟨X.OwnS.rs o1,OwnN.nsl o2,OwnI.isl o3⟩)
 clear o1 o2 o3
 have e1:cdV awC (.slice b1 awC.nodes.length l1) (.slice b2 awC.vals.length l2) (.slice b3 awC.steps.length l3) = .agg #[.string ⟨#[114,49]⟩,.slice b1 2 l1,.string ⟨#[]⟩,.int .i64 47,.int .i64 2,.int .i64 0,.slice b2 0 l2,.slice b3 0 l3]:=rfl
 rw [e1]
 clear e1
 go_wp2_with fail
 have hk2:=(Kept.refl w1).alloc (.cells #[.string ⟨#[114,49]⟩,.slice b1 2 l1,.string ⟨#[]⟩,.int .i64 47,.int .i64 2,.int .i64 0,.slice b2 0 l2,.slice b3 0 l3] 32)
 have hC:=RowL.alloc 32 w1 [.string ⟨#[114,49]⟩,.slice b1 2 l1,.string ⟨#[]⟩,.int .i64 47,.int .i64 2,.int .i64 0,.slice b2 0 l2,.slice b3 0 l3]
 have hwr:=write_plain b1 b2 b3 2 l1 0 l2 0 l3 awC _ (HG.out.1.kept (HK.out.trans hk2)) (HG.out.2.1.kept (HK.out.trans hk2)) (HG.out.2.2.kept (HK.out.trans hk2)) (HO.out.kept hk2) (by omega) (by decide) (by rw [aw4]; decide) (by decide)
 rw [aw2] at hwr
 have e2:cdV awC (.slice b1 2 l1) (.slice b2 0 l2) (.slice b3 0 l3) = .agg #[.string ⟨#[114,49]⟩,.slice b1 2 l1,.string ⟨#[]⟩,.int .i64 47,.int .i64 2,.int .i64 0,.slice b2 0 l2,.slice b3 0 l3]:=rfl
 rw [e2] at hwr
 generalize w1.alloc (.cells #[.string ⟨#[114,49]⟩,.slice b1 2 l1,.string ⟨#[]⟩,.int .i64 47,.int .i64 2,.int .i64 0,.slice b2 0 l2,.slice b3 0 l3] 32) = W1 at hk2 hC hwr ⊢
 obtain ⟨p,hp⟩:∃ q,q = w1.heap.size:=⟨_,rfl⟩
 rw [← hp] at hC ⊢
 refine hwr.mono ?_
 rintro e w2 ⟨hk3,u,rfl,ou⟩
 obtain ⟨ao,cap,rfl,_,_⟩:=own_cap ou
 have HW:=hid' (And.intro (HK.out.trans (hk2.trans hk3)) (And.intro (hC.kept hk3) (X.OwnS.rs ou)))
 clear hk2 hC hwr hk3 ou e2 hp HK
 go_wp2_with fail
 have hk0:=(Kept.refl w2).alloc (.cells (strs awM).toArray 9)
 have hrs:=rs_lit w2 awM 6 rfl
 have hrm:=readM_any (some ⟨w2.heap.size,0,none⟩) 6 6 awM _ (HG.out.1.kept (HW.out.1.trans hk0)) (HG.out.2.1.kept (HW.out.1.trans hk0)) hrs (by omega) (by decide)
 rw [aw3] at hrm
 refine hrm.mono ?_
 rintro e w3 ⟨hk4,v,rfl,gv,vv,rfl,o1,o2⟩
 obtain ⟨b4,l4,rfl⟩:=own_shape o1
 obtain ⟨b5,l5,rfl⟩:=own_shape o2
 have e3:(Value.agg #[.string (bs awD.name),.int .u8 awD.kind,.slice b4 awD.gs.length l4,.slice b5 awD.vs.length l5]) = .agg #[.string ⟨#[100,49]⟩,.int .u8 100,.slice b4 2 l4,.slice b5 1 l5]:=rfl
 rw [e3]
 have HW:=hid' (And.intro (HW.out.1.trans (hk0.trans hk4)) (And.intro (HW.out.2.1.kept (hk0.trans hk4)) (HW.out.2.2.kept (hk0.trans hk4))))
 have kM:=(Kept.refl w3).alloc (.cells #[.string ⟨#[100,49]⟩,.int .u8 100,.slice b4 2 l4,.slice b5 1 l5] 43)
 have hCm:=HW.out.2.1.kept kM
 have c3:=hCm.cell 3 (.int .i64 47)
 have c4:=hCm.cell 4 (.int .i64 2)
 clear hk0 hrs hrm hk4 o1 o2 e3 hCm
 go_wp2_with fail
 have hM:=Row4.alloc 43 w3 (.string ⟨#[100,49]⟩) (.int .u8 100) (.slice b4 2 l4) (.slice b5 1 l5)
 have hsz:(w3.alloc (.cells #[.string ⟨#[100,49]⟩,.int .u8 100,.slice b4 2 l4,.slice b5 1 l5] 43)).heap.size = w3.heap.size + 1:=by rw [World.size_alloc]
 generalize w3.alloc (.cells #[.string ⟨#[100,49]⟩,.int .u8 100,.slice b4 2 l4,.slice b5 1 l5] 43) = W4 at kM hM c3 c4 hsz ⊢
 rw [← hsz]
 obtain ⟨mb,hmb⟩:∃ q,q = w3.heap.size:=⟨_,rfl⟩
 rw [← hmb] at hM ⊢
 have hk5:=(Kept.refl W4).alloc (.cells (strs awT).toArray 9)
 have hrs:=rs_lit W4 awT 4 rfl
 have htx:=X.texts_any _ _ awT awT _ (HW.out.2.2.kept (kM.trans hk5)) hrs (by decide)
 rw [decide_eq_true (rfl:awT = awT)] at htx
 refine htx.mono ?_
 rintro e w4 ⟨hk6,rfl⟩
 have hM4:=hM.kept (hk5.trans hk6)
 have m1:=hM4.c1
 have m2:=hM4.c2
 have HK:=hid' (HW.out.1.trans (kM.trans (hk5.trans hk6)))
 clear kM hM hsz hmb hk5 hrs htx hk6 hM4 c3 c4
 go_wp2_with fail
 go_ret
 exact ⟨HK.out,rfl⟩
end V
end Go.Proofs.YtfddbkhfokeioaaGreatDoor

namespace Go.Proofs.YtfddbkhfokeioaaGreatDoor
open Go.RowKit
namespace V
open Q (hid' parseOf Lett ErrV Tab okN textOf)
open X (bs OwnS RS strs bs_list bs_size)
theorem zero_r (w:World):CdR w none 0 0 none 0 0 none 0 0 Cd.zero:=⟨⟨none,0,rfl,fun h => absurd h (by decide)⟩,⟨none,0,rfl,fun h => absurd h (by decide)⟩,⟨none,0,rfl,fun h => absurd h (by decide)⟩⟩
set_option maxRecDepth 100000 in
set_option maxHeartbeats 16000000 in
theorem plain7_any (a b x:ByteArray) (w:World) (hL:Lett w) (hE:ErrV w) (hT:Tab w) (ha:a.size≤9223372036854775807) (hb:b.size≤9223372036854775807) (hx:x.size≤9223372036854775807) :
  Calls Tryz.prog 8 #[.string a,.string b,.string x] w fun e w' => Kept w w'∧e = .returned (.bool true):=by
 have HG:=hid' (And.intro hL (And.intro hE hT))
 have HSZ:=hid' (show a.data.toList.length≤9223372036854775807∧b.data.toList.length≤9223372036854775807∧x.data.toList.length≤9223372036854775807 by rw [X.len_list,X.len_list,X.len_list]; exact ⟨ha,hb,hx⟩)
 have hxl:x.toList = x.data.toList:=ByteArray.toList_eq x
 clear hL hE hT ha hb hx
 have haw:=awake7_any w HG.out.1 HG.out.2.1 HG.out.2.2
 by_cases hany:x.data.toList = [100,99] ∨ x.data.toList = [112,117,108,115,101] ∨ x.data.toList = [112,119,108] ∨ x.data.toList = [116,97,98,108,101]
 ·
  have hxc:=hany
  rw [← hxl] at hxc
  clear hany hxl
  go_enter Tryz.func8,Tryz.ntmps8
  go_wp2_with fail
  refine haw.mono ?_
  rintro e w1 ⟨hk,rfl⟩
  have HK:=hid' hk
  clear hk haw
  rcases hxc with h | h | h | h <;>
  ·
   go_wp2_with fail
   go_ret
   exact ⟨HK.out,rfl⟩
 ·
  have HX:=hid' (show x.data.toList ≠ [100,99]∧x.data.toList ≠ [112,117,108,115,101]∧x.data.toList ≠ [112,119,108]∧x.data.toList ≠ [116,97,98,108,101] from ⟨fun e => hany (.inl e),fun e => hany (.inr (.inl e)),fun e => hany (.inr (.inr (.inl e))),fun e => hany (.inr (.inr (.inr e)))⟩)
  have n1:(x.toList == [100,99]) = false:=by rw [hxl]; simpa using HX.out.1
  have n2:(x.toList == [112,117,108,115,101]) = false:=by rw [hxl]; simpa using HX.out.2.1
  have n3:(x.toList == [112,119,108]) = false:=by rw [hxl]; simpa using HX.out.2.2.1
  have n4:(x.toList == [116,97,98,108,101]) = false:=by rw [hxl]; simpa using HX.out.2.2.2
  clear hany hxl
  go_enter Tryz.func8,Tryz.ntmps8
  go_wp2_with fail
  refine haw.mono ?_
  rintro e w1 ⟨hk,rfl⟩
  have HK:=hid' hk
  clear hk haw
  rcases plain_cases a.data.toList b.data.toList x.data.toList with ⟨y,hy,hpc⟩ | ⟨pn,hpc⟩
  ·
   go_wp2_with fail
   have hk0:=(Kept.refl w1).alloc (.cells (strs [[118,49],a.data.toList,b.data.toList,x.data.toList]).toArray 9)
   have hrd:=readC_any (some ⟨w1.heap.size,0,none⟩) 4 4 [[118,49],a.data.toList,b.data.toList,x.data.toList] _ (HG.out.1.kept (HK.out.trans hk0)) (HG.out.2.1.kept (HK.out.trans hk0)) (rs_lit w1 [[118,49],a.data.toList,b.data.toList,x.data.toList] 4 rfl) (Nat.le_refl _) (by omega) (by intro z hz; simp only [List.mem_cons,List.not_mem_nil,or_false] at hz; rcases hz with rfl | rfl | rfl | rfl <;> first | exact HSZ.out.1 | exact HSZ.out.2.1 | exact HSZ.out.2.2 | decide)
   rw [read_plain [118,49] a.data.toList b.data.toList x.data.toList (by decide) (.inl rfl) HX.out.1 HX.out.2.1 HX.out.2.2.1 HX.out.2.2.2,hpc] at hrd
   refine hrd.mono ?_
   rintro e wa1 ⟨hk1,hres⟩
   clear hrd
   have HK:=hid' (HK.out.trans (hk0.trans hk1))
   obtain ⟨rfl,_⟩:=hres
   unfold zeroCd
   clear hk0 hk1
   go_wp2_with fail
   have hkz:=(Kept.refl wa1).alloc (.cells #[.string ⟨#[]⟩,.slice none 0 0,.string ⟨#[]⟩,.int .i64 0,.int .i64 0,.int .i64 0,.slice none 0 0,.slice none 0 0] 32)
   have hC:=RowL.alloc 32 wa1 [.string ⟨#[]⟩,.slice none 0 0,.string ⟨#[]⟩,.int .i64 0,.int .i64 0,.int .i64 0,.slice none 0 0,.slice none 0 0]
   have hsz:(wa1.alloc (.cells #[.string ⟨#[]⟩,.slice none 0 0,.string ⟨#[]⟩,.int .i64 0,.int .i64 0,.int .i64 0,.slice none 0 0,.slice none 0 0] 32)).heap.size = wa1.heap.size + 1:=by rw [World.size_alloc]
   generalize wa1.alloc (.cells #[.string ⟨#[]⟩,.slice none 0 0,.string ⟨#[]⟩,.int .i64 0,.int .i64 0,.int .i64 0,.slice none 0 0,.slice none 0 0] 32) = V1 at hkz hC hsz ⊢
   rw [← hsz]
   obtain ⟨p1,hp1⟩:∃ q,q = wa1.heap.size:=⟨_,rfl⟩
   rw [← hp1] at hC ⊢
   have HP1:=hid' hp1
   have HC1:=hid' hC
   have HK:=hid' (HK.out.trans hkz)
   clear hkz hC hsz hp1
   have hk0:=(Kept.refl V1).alloc (.cells (strs [[118,49],a.data.toList,b.data.toList,[100,99],x.data.toList]).toArray 9)
   have hrd:=readC_any (some ⟨V1.heap.size,0,none⟩) 5 5 [[118,49],a.data.toList,b.data.toList,[100,99],x.data.toList] _ (HG.out.1.kept (HK.out.trans hk0)) (HG.out.2.1.kept (HK.out.trans hk0)) (rs_lit V1 [[118,49],a.data.toList,b.data.toList,[100,99],x.data.toList] 5 rfl) (Nat.le_refl _) (by omega) (by intro z hz; simp only [List.mem_cons,List.not_mem_nil,or_false] at hz; rcases hz with rfl | rfl | rfl | rfl | rfl <;> first | exact HSZ.out.1 | exact HSZ.out.2.1 | exact HSZ.out.2.2 | decide)
   rw [read_dc [118,49] a.data.toList b.data.toList x.data.toList (by decide) (.inl rfl),hpc] at hrd
   refine hrd.mono ?_
   rintro e wa2 ⟨hk1,hres⟩
   clear hrd
   have HK:=hid' (HK.out.trans (hk0.trans hk1))
   have HC1:=hid' (HC1.out.kept (hk0.trans hk1))
   obtain ⟨rfl,_⟩:=hres
   unfold zeroCd
   clear hk0 hk1
   go_wp2_with fail
   have hkz:=(Kept.refl wa2).alloc (.cells #[.string ⟨#[]⟩,.slice none 0 0,.string ⟨#[]⟩,.int .i64 0,.int .i64 0,.int .i64 0,.slice none 0 0,.slice none 0 0] 32)
   have hC:=RowL.alloc 32 wa2 [.string ⟨#[]⟩,.slice none 0 0,.string ⟨#[]⟩,.int .i64 0,.int .i64 0,.int .i64 0,.slice none 0 0,.slice none 0 0]
   have hsz:(wa2.alloc (.cells #[.string ⟨#[]⟩,.slice none 0 0,.string ⟨#[]⟩,.int .i64 0,.int .i64 0,.int .i64 0,.slice none 0 0,.slice none 0 0] 32)).heap.size = wa2.heap.size + 1:=by rw [World.size_alloc]
   generalize wa2.alloc (.cells #[.string ⟨#[]⟩,.slice none 0 0,.string ⟨#[]⟩,.int .i64 0,.int .i64 0,.int .i64 0,.slice none 0 0,.slice none 0 0] 32) = V2 at hkz hC hsz ⊢
   rw [← hsz]
   obtain ⟨p2,hp2⟩:∃ q,q = wa2.heap.size:=⟨_,rfl⟩
   rw [← hp2] at hC ⊢
   have HP2:=hid' hp2
   have HC2:=hid' hC
   have HC1:=hid' (HC1.out.kept hkz)
   have HK:=hid' (HK.out.trans hkz)
   clear hkz hC hsz hp2
   have hk0:=(Kept.refl V2).alloc (.cells (strs [[105,49],a.data.toList,b.data.toList,x.data.toList]).toArray 9)
   have hrd:=readC_any (some ⟨V2.heap.size,0,none⟩) 4 4 [[105,49],a.data.toList,b.data.toList,x.data.toList] _ (HG.out.1.kept (HK.out.trans hk0)) (HG.out.2.1.kept (HK.out.trans hk0)) (rs_lit V2 [[105,49],a.data.toList,b.data.toList,x.data.toList] 4 rfl) (Nat.le_refl _) (by omega) (by intro z hz; simp only [List.mem_cons,List.not_mem_nil,or_false] at hz; rcases hz with rfl | rfl | rfl | rfl <;> first | exact HSZ.out.1 | exact HSZ.out.2.1 | exact HSZ.out.2.2 | decide)
   rw [read_plain [105,49] a.data.toList b.data.toList x.data.toList (by decide) (.inr rfl) HX.out.1 HX.out.2.1 HX.out.2.2.1 HX.out.2.2.2,hpc] at hrd
   refine hrd.mono ?_
   rintro e wa3 ⟨hk1,hres⟩
   clear hrd
   have HK:=hid' (HK.out.trans (hk0.trans hk1))
   have HC1:=hid' (HC1.out.kept (hk0.trans hk1))
   have HC2:=hid' (HC2.out.kept (hk0.trans hk1))
   obtain ⟨rfl,_⟩:=hres
   unfold zeroCd
   clear hk0 hk1
   have hne:¬ p1 = wa3.heap.size:=by have:=HC1.out.lt; omega
   have kq:=(Kept.refl wa3).alloc (.cells #[.string ⟨#[]⟩,.slice none 0 0,.string ⟨#[]⟩,.int .i64 0,.int .i64 0,.int .i64 0,.slice none 0 0,.slice none 0 0] 32)
   have q0:=(HC1.out.kept kq).cell 0 (.string ⟨#[]⟩)
   clear kq
   have kq:=(Kept.refl wa3).alloc (.cells #[.string ⟨#[]⟩,.slice none 0 0,.string ⟨#[]⟩,.int .i64 0,.int .i64 0,.int .i64 0,.slice none 0 0,.slice none 0 0] 32)
   have r0:=(HC1.out.kept kq).cell 0 (.string ⟨#[]⟩)
   have r1:=(HC1.out.kept kq).cell 1 (.slice none 0 0)
   have r2:=(HC1.out.kept kq).cell 2 (.string ⟨#[]⟩)
   have r3:=(HC1.out.kept kq).cell 3 (.int .i64 0)
   have r4:=(HC1.out.kept kq).cell 4 (.int .i64 0)
   have r5:=(HC1.out.kept kq).cell 5 (.int .i64 0)
   have r6:=(HC1.out.kept kq).cell 6 (.slice none 0 0)
   have r7:=(HC1.out.kept kq).cell 7 (.slice none 0 0)
   have s0:=(HC2.out.kept kq).cell 0 (.string ⟨#[]⟩)
   have s1:=(HC2.out.kept kq).cell 1 (.slice none 0 0)
   have s2:=(HC2.out.kept kq).cell 2 (.string ⟨#[]⟩)
   have s3:=(HC2.out.kept kq).cell 3 (.int .i64 0)
   have s4:=(HC2.out.kept kq).cell 4 (.int .i64 0)
   have s5:=(HC2.out.kept kq).cell 5 (.int .i64 0)
   have s6:=(HC2.out.kept kq).cell 6 (.slice none 0 0)
   have s7:=(HC2.out.kept kq).cell 7 (.slice none 0 0)
   have HKQ:=hid' kq
   clear kq
   have hy':(y == 0) = false:=by simpa using hy
   go_wp2_with fail
   refine (same7_any none none none none none none 0 0 0 0 0 0 0 0 0 Cd.zero _ (zero_r _) (zero_r _) (by omega) (by omega) (by omega)).mono ?_
   rintro e w5 ⟨hk5,rfl⟩
   have HK:=hid' (HK.out.trans (HKQ.out.trans hk5))
   clear hk5 q0 r0 r1 r2 r3 r4 r5 r6 r7 s0 s1 s2 s3 s4 s5 s6 s7
   go_wp2_with fail
   go_ret
   exact ⟨HK.out,rfl⟩
  ·
   go_wp2_with fail
   have hk0:=(Kept.refl w1).alloc (.cells (strs [[118,49],a.data.toList,b.data.toList,x.data.toList]).toArray 9)
   have hrd:=readC_any (some ⟨w1.heap.size,0,none⟩) 4 4 [[118,49],a.data.toList,b.data.toList,x.data.toList] _ (HG.out.1.kept (HK.out.trans hk0)) (HG.out.2.1.kept (HK.out.trans hk0)) (rs_lit w1 [[118,49],a.data.toList,b.data.toList,x.data.toList] 4 rfl) (Nat.le_refl _) (by omega) (by intro z hz; simp only [List.mem_cons,List.not_mem_nil,or_false] at hz; rcases hz with rfl | rfl | rfl | rfl <;> first | exact HSZ.out.1 | exact HSZ.out.2.1 | exact HSZ.out.2.2 | decide)
   rw [read_plain [118,49] a.data.toList b.data.toList x.data.toList (by decide) (.inl rfl) HX.out.1 HX.out.2.1 HX.out.2.2.1 HX.out.2.2.2,hpc] at hrd
   refine hrd.mono ?_
   rintro e wa1 ⟨hk1,hres⟩
   clear hrd
   have HK:=hid' (HK.out.trans (hk0.trans hk1))
   obtain ⟨v,rfl,nv,xv,sv,rfl,o1,o2,o3⟩:=hres
   obtain ⟨b11,l11,rfl⟩:=own_shape o1
   obtain ⟨b12,l12,rfl⟩:=own_shape o2
   obtain ⟨b13,l13,rfl⟩:=own_shape o3
   have HO1:=hid' (show CdR wa1 b11 2 l11 b12 1 l12 b13 0 l13 ⟨[118,49],[a.data.toList,b.data.toList],[],(0,0),1,[pn],[]⟩ from ⟨X.OwnS.rs o1,OwnN.nsl o2,OwnI.isl o3⟩)
   clear o1 o2 o3
   have e1:cdV ⟨[118,49],[a.data.toList,b.data.toList],[],(0,0),1,[pn],[]⟩ (.slice b11 [a.data.toList,b.data.toList].length l11) (.slice b12 [pn].length l12) (.slice b13 ([]:List Int).length l13) = .agg #[.string ⟨#[118,49]⟩,.slice b11 2 l11,.string ⟨#[]⟩,.int .i64 0,.int .i64 0,.int .i64 1,.slice b12 1 l12,.slice b13 0 l13]:=rfl
   rw [e1]
   clear e1
   clear hk0 hk1
   go_wp2_with fail
   have hkz:=(Kept.refl wa1).alloc (.cells #[.string ⟨#[118,49]⟩,.slice b11 2 l11,.string ⟨#[]⟩,.int .i64 0,.int .i64 0,.int .i64 1,.slice b12 1 l12,.slice b13 0 l13] 32)
   have hC:=RowL.alloc 32 wa1 [.string ⟨#[118,49]⟩,.slice b11 2 l11,.string ⟨#[]⟩,.int .i64 0,.int .i64 0,.int .i64 1,.slice b12 1 l12,.slice b13 0 l13]
   have hsz:(wa1.alloc (.cells #[.string ⟨#[118,49]⟩,.slice b11 2 l11,.string ⟨#[]⟩,.int .i64 0,.int .i64 0,.int .i64 1,.slice b12 1 l12,.slice b13 0 l13] 32)).heap.size = wa1.heap.size + 1:=by rw [World.size_alloc]
   generalize wa1.alloc (.cells #[.string ⟨#[118,49]⟩,.slice b11 2 l11,.string ⟨#[]⟩,.int .i64 0,.int .i64 0,.int .i64 1,.slice b12 1 l12,.slice b13 0 l13] 32) = V1 at hkz hC hsz ⊢
   rw [← hsz]
   obtain ⟨p1,hp1⟩:∃ q,q = wa1.heap.size:=⟨_,rfl⟩
   rw [← hp1] at hC ⊢
   have HP1:=hid' hp1
   have HC1:=hid' hC
   have HO1:=hid' (HO1.out.kept hkz)
   have HK:=hid' (HK.out.trans hkz)
   clear hkz hC hsz hp1
   have hk0:=(Kept.refl V1).alloc (.cells (strs [[118,49],a.data.toList,b.data.toList,[100,99],x.data.toList]).toArray 9)
   have hrd:=readC_any (some ⟨V1.heap.size,0,none⟩) 5 5 [[118,49],a.data.toList,b.data.toList,[100,99],x.data.toList] _ (HG.out.1.kept (HK.out.trans hk0)) (HG.out.2.1.kept (HK.out.trans hk0)) (rs_lit V1 [[118,49],a.data.toList,b.data.toList,[100,99],x.data.toList] 5 rfl) (Nat.le_refl _) (by omega) (by intro z hz; simp only [List.mem_cons,List.not_mem_nil,or_false] at hz; rcases hz with rfl | rfl | rfl | rfl | rfl <;> first | exact HSZ.out.1 | exact HSZ.out.2.1 | exact HSZ.out.2.2 | decide)
   rw [read_dc [118,49] a.data.toList b.data.toList x.data.toList (by decide) (.inl rfl),hpc] at hrd
   refine hrd.mono ?_
   rintro e wa2 ⟨hk1,hres⟩
   clear hrd
   have HK:=hid' (HK.out.trans (hk0.trans hk1))
   have HC1:=hid' (HC1.out.kept (hk0.trans hk1))
   have HO1:=hid' (HO1.out.kept (hk0.trans hk1))
   obtain ⟨v,rfl,nv,xv,sv,rfl,o1,o2,o3⟩:=hres
   obtain ⟨b21,l21,rfl⟩:=own_shape o1
   obtain ⟨b22,l22,rfl⟩:=own_shape o2
   obtain ⟨b23,l23,rfl⟩:=own_shape o3
   have HO2:=hid' (show CdR wa2 b21 2 l21 b22 1 l22 b23 0 l23 ⟨[118,49],[a.data.toList,b.data.toList],[],(0,0),1,[pn],[]⟩ from ⟨X.OwnS.rs o1,OwnN.nsl o2,OwnI.isl o3⟩)
   clear o1 o2 o3
   have e1:cdV ⟨[118,49],[a.data.toList,b.data.toList],[],(0,0),1,[pn],[]⟩ (.slice b21 [a.data.toList,b.data.toList].length l21) (.slice b22 [pn].length l22) (.slice b23 ([]:List Int).length l23) = .agg #[.string ⟨#[118,49]⟩,.slice b21 2 l21,.string ⟨#[]⟩,.int .i64 0,.int .i64 0,.int .i64 1,.slice b22 1 l22,.slice b23 0 l23]:=rfl
   rw [e1]
   clear e1
   clear hk0 hk1
   go_wp2_with fail
   have hkz:=(Kept.refl wa2).alloc (.cells #[.string ⟨#[118,49]⟩,.slice b21 2 l21,.string ⟨#[]⟩,.int .i64 0,.int .i64 0,.int .i64 1,.slice b22 1 l22,.slice b23 0 l23] 32)
   have hC:=RowL.alloc 32 wa2 [.string ⟨#[118,49]⟩,.slice b21 2 l21,.string ⟨#[]⟩,.int .i64 0,.int .i64 0,.int .i64 1,.slice b22 1 l22,.slice b23 0 l23]
   have hsz:(wa2.alloc (.cells #[.string ⟨#[118,49]⟩,.slice b21 2 l21,.string ⟨#[]⟩,.int .i64 0,.int .i64 0,.int .i64 1,.slice b22 1 l22,.slice b23 0 l23] 32)).heap.size = wa2.heap.size + 1:=by rw [World.size_alloc]
   generalize wa2.alloc (.cells #[.string ⟨#[118,49]⟩,.slice b21 2 l21,.string ⟨#[]⟩,.int .i64 0,.int .i64 0,.int .i64 1,.slice b22 1 l22,.slice b23 0 l23] 32) = V2 at hkz hC hsz ⊢
   rw [← hsz]
   obtain ⟨p2,hp2⟩:∃ q,q = wa2.heap.size:=⟨_,rfl⟩
   rw [← hp2] at hC ⊢
   have HP2:=hid' hp2
   have HC2:=hid' hC
   have HC1:=hid' (HC1.out.kept hkz)
   have HO1:=hid' (HO1.out.kept hkz)
   have HO2:=hid' (HO2.out.kept hkz)
   have HK:=hid' (HK.out.trans hkz)
   clear hkz hC hsz hp2
   have hk0:=(Kept.refl V2).alloc (.cells (strs [[105,49],a.data.toList,b.data.toList,x.data.toList]).toArray 9)
   have hrd:=readC_any (some ⟨V2.heap.size,0,none⟩) 4 4 [[105,49],a.data.toList,b.data.toList,x.data.toList] _ (HG.out.1.kept (HK.out.trans hk0)) (HG.out.2.1.kept (HK.out.trans hk0)) (rs_lit V2 [[105,49],a.data.toList,b.data.toList,x.data.toList] 4 rfl) (Nat.le_refl _) (by omega) (by intro z hz; simp only [List.mem_cons,List.not_mem_nil,or_false] at hz; rcases hz with rfl | rfl | rfl | rfl <;> first | exact HSZ.out.1 | exact HSZ.out.2.1 | exact HSZ.out.2.2 | decide)
   rw [read_plain [105,49] a.data.toList b.data.toList x.data.toList (by decide) (.inr rfl) HX.out.1 HX.out.2.1 HX.out.2.2.1 HX.out.2.2.2,hpc] at hrd
   refine hrd.mono ?_
   rintro e wa3 ⟨hk1,hres⟩
   clear hrd
   have HK:=hid' (HK.out.trans (hk0.trans hk1))
   have HC1:=hid' (HC1.out.kept (hk0.trans hk1))
   have HC2:=hid' (HC2.out.kept (hk0.trans hk1))
   have HO1:=hid' (HO1.out.kept (hk0.trans hk1))
   have HO2:=hid' (HO2.out.kept (hk0.trans hk1))
   obtain ⟨v,rfl,nv,xv,sv,rfl,o1,o2,o3⟩:=hres
   obtain ⟨b31,l31,rfl⟩:=own_shape o1
   obtain ⟨b32,l32,rfl⟩:=own_shape o2
   obtain ⟨b33,l33,rfl⟩:=own_shape o3
   have HO3:=hid' (show CdR wa3 b31 2 l31 b32 1 l32 b33 0 l33 ⟨[105,49],[a.data.toList,b.data.toList],[],(0,0),1,[pn],[]⟩ from ⟨X.OwnS.rs o1,OwnN.nsl o2,OwnI.isl o3⟩)
   clear o1 o2 o3
   have e1:cdV ⟨[105,49],[a.data.toList,b.data.toList],[],(0,0),1,[pn],[]⟩ (.slice b31 [a.data.toList,b.data.toList].length l31) (.slice b32 [pn].length l32) (.slice b33 ([]:List Int).length l33) = .agg #[.string ⟨#[105,49]⟩,.slice b31 2 l31,.string ⟨#[]⟩,.int .i64 0,.int .i64 0,.int .i64 1,.slice b32 1 l32,.slice b33 0 l33]:=rfl
   rw [e1]
   clear e1
   clear hk0 hk1
   have hne:¬ p1 = wa3.heap.size:=by have:=HC1.out.lt; omega
   have kq:=(Kept.refl wa3).alloc (.cells #[.string ⟨#[105,49]⟩,.slice b31 2 l31,.string ⟨#[]⟩,.int .i64 0,.int .i64 0,.int .i64 1,.slice b32 1 l32,.slice b33 0 l33] 32)
   have q0:=(HC1.out.kept kq).cell 0 (.string ⟨#[118,49]⟩)
   clear kq
   have kq:=(Kept.refl wa3).alloc (.cells #[.string ⟨#[118,49]⟩,.slice b31 2 l31,.string ⟨#[]⟩,.int .i64 0,.int .i64 0,.int .i64 1,.slice b32 1 l32,.slice b33 0 l33] 32)
   have r0:=(HC1.out.kept kq).cell 0 (.string ⟨#[118,49]⟩)
   have r1:=(HC1.out.kept kq).cell 1 (.slice b11 2 l11)
   have r2:=(HC1.out.kept kq).cell 2 (.string ⟨#[]⟩)
   have r3:=(HC1.out.kept kq).cell 3 (.int .i64 0)
   have r4:=(HC1.out.kept kq).cell 4 (.int .i64 0)
   have r5:=(HC1.out.kept kq).cell 5 (.int .i64 1)
   have r6:=(HC1.out.kept kq).cell 6 (.slice b12 1 l12)
   have r7:=(HC1.out.kept kq).cell 7 (.slice b13 0 l13)
   have s0:=(HC2.out.kept kq).cell 0 (.string ⟨#[118,49]⟩)
   have s1:=(HC2.out.kept kq).cell 1 (.slice b21 2 l21)
   have s2:=(HC2.out.kept kq).cell 2 (.string ⟨#[]⟩)
   have s3:=(HC2.out.kept kq).cell 3 (.int .i64 0)
   have s4:=(HC2.out.kept kq).cell 4 (.int .i64 0)
   have s5:=(HC2.out.kept kq).cell 5 (.int .i64 1)
   have s6:=(HC2.out.kept kq).cell 6 (.slice b22 1 l22)
   have s7:=(HC2.out.kept kq).cell 7 (.slice b23 0 l23)
   have HKQ:=hid' kq
   clear kq
   have e1:cdV ⟨[118,49],[a.data.toList,b.data.toList],[],(0,0),1,[pn],[]⟩ (.slice b11 2 l11) (.slice b12 1 l12) (.slice b13 0 l13) = .agg #[.string ⟨#[118,49]⟩,.slice b11 2 l11,.string ⟨#[]⟩,.int .i64 0,.int .i64 0,.int .i64 1,.slice b12 1 l12,.slice b13 0 l13]:=rfl
   have e2:cdV ⟨[118,49],[a.data.toList,b.data.toList],[],(0,0),1,[pn],[]⟩ (.slice b21 2 l21) (.slice b22 1 l22) (.slice b23 0 l23) = .agg #[.string ⟨#[118,49]⟩,.slice b21 2 l21,.string ⟨#[]⟩,.int .i64 0,.int .i64 0,.int .i64 1,.slice b22 1 l22,.slice b23 0 l23]:=rfl
   have e3:cdV ⟨[118,49],[a.data.toList,b.data.toList],[],(0,0),1,[pn],[]⟩ (.slice b31 2 l31) (.slice b32 1 l32) (.slice b33 0 l33) = .agg #[.string ⟨#[118,49]⟩,.slice b31 2 l31,.string ⟨#[]⟩,.int .i64 0,.int .i64 0,.int .i64 1,.slice b32 1 l32,.slice b33 0 l33]:=rfl
   have hs1:=fun V (K:Kept wa3 V) => same7_any b11 b12 b13 b21 b22 b23 2 l11 1 l12 0 l13 l21 l22 l23 ⟨[118,49],[a.data.toList,b.data.toList],[],(0,0),1,[pn],[]⟩ V (HO1.out.kept K) (HO2.out.kept K) (by omega) (by omega) (by omega)
   have hs2:=fun V (K:Kept wa3 V) => same7_any b11 b12 b13 b31 b32 b33 2 l11 1 l12 0 l13 l31 l32 l33 ⟨[118,49],[a.data.toList,b.data.toList],[],(0,0),1,[pn],[]⟩ V (HO1.out.kept K) (show CdR V b31 2 l31 b32 1 l32 b33 0 l33 ⟨[118,49],[a.data.toList,b.data.toList],[],(0,0),1,[pn],[]⟩ from ⟨(HO3.out.kept K).nodes,(HO3.out.kept K).vals,(HO3.out.kept K).steps⟩) (by omega) (by omega) (by omega)
   rw [e1,e2] at hs1
   rw [e1,e3] at hs2
   clear e1 e2 e3
   have hN:=RowL.alloc 32 wa3 [.string ⟨#[118,49]⟩,.slice b31 2 l31,.string ⟨#[]⟩,.int .i64 0,.int .i64 0,.int .i64 1,.slice b32 1 l32,.slice b33 0 l33]
   go_wp2_with fail
   refine (hs1 _ HKQ.out).mono ?_
   rintro e w5 ⟨hk5,rfl⟩
   have hN:=hN.kept hk5
   have hD:=HC1.out.kept (HKQ.out.trans hk5)
   obtain ⟨p3,hp3⟩:∃ q,q = wa3.heap.size:=⟨_,rfl⟩
   rw [← hp3] at hN ⊢
   have HKF:=hid' (HKQ.out.trans hk5)
   have HD:=hid' hD
   clear hk5 hs1 q0 r0 r1 r2 r3 r4 r5 r6 r7 s0 s1 s2 s3 s4 s5 s6 s7 hp3 hne
   have r0:=hD.cell 0 (.string ⟨#[118,49]⟩)
   have r1:=hD.cell 1 (.slice b11 2 l11)
   have r2:=hD.cell 2 (.string ⟨#[]⟩)
   have r3:=hD.cell 3 (.int .i64 0)
   have r4:=hD.cell 4 (.int .i64 0)
   have r5:=hD.cell 5 (.int .i64 1)
   have r6:=hD.cell 6 (.slice b12 1 l12)
   have r7:=hD.cell 7 (.slice b13 0 l13)
   have s0:=hN.cell 0 (.string ⟨#[118,49]⟩)
   have s1:=hN.cell 1 (.slice b31 2 l31)
   have s2:=hN.cell 2 (.string ⟨#[]⟩)
   have s3:=hN.cell 3 (.int .i64 0)
   have s4:=hN.cell 4 (.int .i64 0)
   have s5:=hN.cell 5 (.int .i64 1)
   have s6:=hN.cell 6 (.slice b32 1 l32)
   have s7:=hN.cell 7 (.slice b33 0 l33)
   clear hN hD
   go_wp2_with fail
   refine (hs2 _ HKF.out).mono ?_
   rintro e w6 ⟨hk6,rfl⟩
   have hD:=HD.out.kept hk6
   clear hs2 r0 r1 r2 r3 r4 r5 r6 r7 s0 s1 s2 s3 s4 s5 s6 s7
   have r5:=hD.cell 5 (.int .i64 1)
   have HK:=hid' (HK.out.trans (HKF.out.trans hk6))
   clear hD hk6
   go_wp2_with fail
   go_ret
   exact ⟨HK.out,rfl⟩
end V
end Go.Proofs.YtfddbkhfokeioaaGreatDoor
