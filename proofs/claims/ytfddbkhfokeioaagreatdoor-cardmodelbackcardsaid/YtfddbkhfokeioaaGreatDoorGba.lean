/- card.same. card.cardWords. card.WriteModel. A model written is read as itself: mathematics. card.Write of cards without a wave. shuntlaw07.awake. CardModelBack's walk. -/
import Derived.Test.YtfddbkhfokeioaaGreatDoorCc1
import Derived.Test.YtfddbkhfokeioaaGreatDoorGaz
import Derived.Test.YtfddbkhfokeioaaGreatDoorGag
import Derived.Laws.OwnMore
import Derived.Test.YtfddbkhfokeioaaGreatDoorGax
namespace Go.Proofs.YtfddbkhfokeioaaGreatDoor
open Go.RowKit
namespace V
open Q (hid' parseOf Lett ErrV Tab okN textOf)
open X (bs OwnS RS strs bs_list bs_size)
structure CdR (w:World) (a1:Option Addr) (n1 k1:Nat) (a2:Option Addr) (n2 k2:Nat) (a3:Option Addr) (n3 k3:Nat) (c:Cd):Prop where
 nodes:RS w (.slice a1 n1 k1) c.nodes
 vals:NSl w (.slice a2 n2 k2) c.vals
 steps:ISl w (.slice a3 n3 k3) c.steps
theorem CdR.kept {w w':World} {a1 a2 a3:Option Addr} {n1 k1 n2 k2 n3 k3:Nat} {c:Cd} (h:CdR w a1 n1 k1 a2 n2 k2 a3 n3 k3 c) (k:Kept w w'):CdR w' a1 n1 k1 a2 n2 k2 a3 n3 k3 c:=⟨h.nodes.kept k,h.vals.kept k,h.steps.kept k⟩
def cdC (c:Cd) (nv xv sv:Value):List Value:=[.string (bs c.name),nv,.string (bs c.ref),.int .i64 c.val.1,.int .i64 c.val.2,.int .i64 c.kind,xv,sv]
set_option maxRecDepth 100000 in
set_option maxHeartbeats 8000000 in
theorem csame_any (a1 a2 a3 b1 b2 b3:Option Addr) (n1 k1 n2 k2 n3 k3 m1 l1 m2 l2 m3 l3:Nat) (c d:Cd) (w:World) (hc:CdR w a1 n1 k1 a2 n2 k2 a3 n3 k3 c) (hd:CdR w b1 m1 l1 b2 m2 l2 b3 m3 l3 d) (h1:n1≤9223372036854775807) (h2:n2≤9223372036854775807) (h3:n3≤9223372036854775807) :
  Calls Tryz.prog 48 #[cdV c (.slice a1 n1 k1) (.slice a2 n2 k2) (.slice a3 n3 k3),cdV d (.slice b1 m1 l1) (.slice b2 m2 l2) (.slice b3 m3 l3)] w fun e w' => Kept w w'∧e = .returned (.bool (decide (c = d))):=by
 obtain ⟨cn,cnd,cr,⟨cm,cx⟩,ckd,cvs,css⟩:=c
 obtain ⟨dn,dnd,dr,⟨dm,dx⟩,dkd,dvs,dss⟩:=d
 unfold cdV
 simp only
 have HC:=hid' (And.intro hc hd)
 have e1:(bs cn).toList = cn:=by rw [ByteArray.toList_eq,bs_list]
 have e2:(bs dn).toList = dn:=by rw [ByteArray.toList_eq,bs_list]
 have e3:(bs cr).toList = cr:=by rw [ByteArray.toList_eq,bs_list]
 have e4:(bs dr).toList = dr:=by rw [ByteArray.toList_eq,bs_list]
 generalize bs cn = s1 at e1 ⊢
 generalize bs dn = s2 at e2 ⊢
 generalize bs cr = s3 at e3 ⊢
 generalize bs dr = s4 at e4 ⊢
 have HE:=hid' (And.intro e1 (And.intro e2 (And.intro e3 e4)))
 obtain ⟨r,hr⟩:∃ r,r = decide ((⟨cn,cnd,cr,(cm,cx),ckd,cvs,css⟩:Cd) = ⟨dn,dnd,dr,(dm,dx),dkd,dvs,dss⟩):=⟨_,rfl⟩
 rw [← hr]
 have HR:=hid' hr
 clear hr e1 e2 e3 e4 hc hd
 go_enter Tryz.func48,Tryz.ntmps48
 go_upto_region 1 with fail
 have hK:=((Kept.refl w).alloc (.cells #[.string s1,.slice a1 n1 k1,.string s3,.int .i64 cm,.int .i64 cx,.int .i64 ckd,.slice a2 n2 k2,.slice a3 n3 k3] 32)).alloc (.cells #[.string s2,.slice b1 m1 l1,.string s4,.int .i64 dm,.int .i64 dx,.int .i64 dkd,.slice b2 m2 l2,.slice b3 m3 l3] 32)
 have hA:=(RowL.alloc 32 w [.string s1,.slice a1 n1 k1,.string s3,.int .i64 cm,.int .i64 cx,.int .i64 ckd,.slice a2 n2 k2,.slice a3 n3 k3]).kept ((Kept.refl _).alloc (.cells #[.string s2,.slice b1 m1 l1,.string s4,.int .i64 dm,.int .i64 dx,.int .i64 dkd,.slice b2 m2 l2,.slice b3 m3 l3] 32))
 have hB:=RowL.alloc 32 (w.alloc (.cells #[.string s1,.slice a1 n1 k1,.string s3,.int .i64 cm,.int .i64 cx,.int .i64 ckd,.slice a2 n2 k2,.slice a3 n3 k3] 32)) [.string s2,.slice b1 m1 l1,.string s4,.int .i64 dm,.int .i64 dx,.int .i64 dkd,.slice b2 m2 l2,.slice b3 m3 l3]
 rw [World.size_alloc] at hB
 generalize (w.alloc (.cells #[.string s1,.slice a1 n1 k1,.string s3,.int .i64 cm,.int .i64 cx,.int .i64 ckd,.slice a2 n2 k2,.slice a3 n3 k3] 32)).alloc (.cells #[.string s2,.slice b1 m1 l1,.string s4,.int .i64 dm,.int .i64 dx,.int .i64 dkd,.slice b2 m2 l2,.slice b3 m3 l3] 32) = W0 at hK hA hB ⊢
 obtain ⟨q,hq⟩:∃ q,q = w.heap.size + 1:=⟨_,rfl⟩
 rw [← hq] at hB ⊢
 obtain ⟨p,hp⟩:∃ q,q = w.heap.size:=⟨_,rfl⟩
 rw [← hp] at hA ⊢
 have HW:=hid' (And.intro hK (And.intro hA hB))
 clear hK hA hB hq hp
 have f0:=HW.out.2.1.cell 0 (.string s1)
 have f1:=HW.out.2.1.cell 1 (.slice a1 n1 k1)
 have f2:=HW.out.2.1.cell 2 (.string s3)
 have f3:=HW.out.2.1.cell 3 (.int .i64 cm)
 have f4:=HW.out.2.1.cell 4 (.int .i64 cx)
 have f5:=HW.out.2.1.cell 5 (.int .i64 ckd)
 have f6:=HW.out.2.1.cell 6 (.slice a2 n2 k2)
 have f7:=HW.out.2.1.cell 7 (.slice a3 n3 k3)
 have g0:=HW.out.2.2.cell 0 (.string s2)
 have g1:=HW.out.2.2.cell 1 (.slice b1 m1 l1)
 have g2:=HW.out.2.2.cell 2 (.string s4)
 have g3:=HW.out.2.2.cell 3 (.int .i64 dm)
 have g4:=HW.out.2.2.cell 4 (.int .i64 dx)
 have g5:=HW.out.2.2.cell 5 (.int .i64 dkd)
 have g6:=HW.out.2.2.cell 6 (.slice b2 m2 l2)
 have g7:=HW.out.2.2.cell 7 (.slice b3 m3 l3)
 by_cases x1:cn = dn
 rotate_left
 ·
  have y1:¬ s1.toList = s2.toList:=by rw [HE.out.1,HE.out.2.1]; exact x1
  have y1':(s1.toList == s2.toList) = false:=by simpa using y1
  have HF:=hid' (show r = false by rw [HR.out]; exact decide_eq_false (fun e => x1 (congrArg Cd.name e)))
  go_wp2_with fail
  go_ret
  exact ⟨HW.out.1,by rw [HF.out]; rfl⟩
 have y1:s1.toList = s2.toList:=by rw [HE.out.1,HE.out.2.1]; exact x1
 have y1':(s1.toList == s2.toList) = true:=by rw [y1]; simp
 go_wp2_with fail
 refine (eq_strs a1 b1 n1 m1 k1 l1 cnd dnd _ (HC.out.1.nodes.kept HW.out.1) (HC.out.2.nodes.kept HW.out.1) (by assumption)).mono ?_
 rintro e w1 ⟨hk,rfl⟩
 have HW:=hid' (And.intro (HW.out.1.trans hk) (And.intro (HW.out.2.1.kept hk) (HW.out.2.2.kept hk)))
 clear f0 f1 f2 f3 f4 f5 f6 f7 g0 g1 g2 g3 g4 g5 g6 g7
 clear hk
 have f0:=HW.out.2.1.cell 0 (.string s1)
 have f1:=HW.out.2.1.cell 1 (.slice a1 n1 k1)
 have f2:=HW.out.2.1.cell 2 (.string s3)
 have f3:=HW.out.2.1.cell 3 (.int .i64 cm)
 have f4:=HW.out.2.1.cell 4 (.int .i64 cx)
 have f5:=HW.out.2.1.cell 5 (.int .i64 ckd)
 have f6:=HW.out.2.1.cell 6 (.slice a2 n2 k2)
 have f7:=HW.out.2.1.cell 7 (.slice a3 n3 k3)
 have g0:=HW.out.2.2.cell 0 (.string s2)
 have g1:=HW.out.2.2.cell 1 (.slice b1 m1 l1)
 have g2:=HW.out.2.2.cell 2 (.string s4)
 have g3:=HW.out.2.2.cell 3 (.int .i64 dm)
 have g4:=HW.out.2.2.cell 4 (.int .i64 dx)
 have g5:=HW.out.2.2.cell 5 (.int .i64 dkd)
 have g6:=HW.out.2.2.cell 6 (.slice b2 m2 l2)
 have g7:=HW.out.2.2.cell 7 (.slice b3 m3 l3)
 by_cases x2:cnd = dnd
 rotate_left
 ·
  rw [decide_eq_false x2]
  have HF:=hid' (show r = false by rw [HR.out]; exact decide_eq_false (fun e => x2 (congrArg Cd.nodes e)))
  go_wp2_with fail
  go_ret
  exact ⟨HW.out.1,by rw [HF.out]; rfl⟩
 rw [decide_eq_true x2]
 by_cases x3:cr = dr
 rotate_left
 ·
  have y3:¬ s3.toList = s4.toList:=by rw [HE.out.2.2.1,HE.out.2.2.2]; exact x3
  have y3':(s3.toList == s4.toList) = false:=by simpa using y3
  have HF:=hid' (show r = false by rw [HR.out]; exact decide_eq_false (fun e => x3 (congrArg Cd.ref e)))
  go_wp2_with fail
  go_ret
  exact ⟨HW.out.1,by rw [HF.out]; rfl⟩
 have y3:s3.toList = s4.toList:=by rw [HE.out.2.2.1,HE.out.2.2.2]; exact x3
 have y3':(s3.toList == s4.toList) = true:=by rw [y3]; simp
 by_cases x4:cm = dm
 rotate_left
 ·
  have x4':(cm == dm) = false:=by simpa using x4
  have HF:=hid' (show r = false by rw [HR.out]; exact decide_eq_false (fun e => x4 (congrArg (fun c => c.val.1) e)))
  go_wp2_with fail
  go_ret
  exact ⟨HW.out.1,by rw [HF.out]; rfl⟩
 subst x4
 by_cases x5:cx = dx
 rotate_left
 ·
  have x5':(cx == dx) = false:=by simpa using x5
  have HF:=hid' (show r = false by rw [HR.out]; exact decide_eq_false (fun e => x5 (congrArg (fun c => c.val.2) e)))
  go_wp2_with fail
  go_ret
  exact ⟨HW.out.1,by rw [HF.out]; rfl⟩
 subst x5
 by_cases x6:ckd = dkd
 rotate_left
 ·
  have x6':(ckd == dkd) = false:=by simpa using x6
  have HF:=hid' (show r = false by rw [HR.out]; exact decide_eq_false (fun e => x6 (congrArg Cd.kind e)))
  go_wp2_with fail
  go_ret
  exact ⟨HW.out.1,by rw [HF.out]; rfl⟩
 subst x6
 go_wp2_with fail
 refine (eq_nums a2 b2 n2 m2 k2 l2 cvs dvs _ (HC.out.1.vals.kept HW.out.1) (HC.out.2.vals.kept HW.out.1) (by assumption)).mono ?_
 rintro e w2 ⟨hk,rfl⟩
 have HW:=hid' (And.intro (HW.out.1.trans hk) (And.intro (HW.out.2.1.kept hk) (HW.out.2.2.kept hk)))
 clear f0 f1 f2 f3 f4 f5 f6 f7 g0 g1 g2 g3 g4 g5 g6 g7
 clear hk
 have f0:=HW.out.2.1.cell 0 (.string s1)
 have f1:=HW.out.2.1.cell 1 (.slice a1 n1 k1)
 have f2:=HW.out.2.1.cell 2 (.string s3)
 have f3:=HW.out.2.1.cell 3 (.int .i64 cm)
 have f4:=HW.out.2.1.cell 4 (.int .i64 cx)
 have f5:=HW.out.2.1.cell 5 (.int .i64 ckd)
 have f6:=HW.out.2.1.cell 6 (.slice a2 n2 k2)
 have f7:=HW.out.2.1.cell 7 (.slice a3 n3 k3)
 have g0:=HW.out.2.2.cell 0 (.string s2)
 have g1:=HW.out.2.2.cell 1 (.slice b1 m1 l1)
 have g2:=HW.out.2.2.cell 2 (.string s4)
 have g3:=HW.out.2.2.cell 3 (.int .i64 cm)
 have g4:=HW.out.2.2.cell 4 (.int .i64 cx)
 have g5:=HW.out.2.2.cell 5 (.int .i64 ckd)
 have g6:=HW.out.2.2.cell 6 (.slice b2 m2 l2)
 have g7:=HW.out.2.2.cell 7 (.slice b3 m3 l3)
 by_cases x7:cvs = dvs
 rotate_left
 ·
  rw [decide_eq_false x7]
  have HF:=hid' (show r = false by rw [HR.out]; exact decide_eq_false (fun e => x7 (congrArg Cd.vals e)))
  go_wp2_with fail
  go_ret
  exact ⟨HW.out.1,by rw [HF.out]; rfl⟩
 rw [decide_eq_true x7]
 go_wp2_with fail
 refine (eq_ints a3 b3 n3 m3 k3 l3 css dss _ (HC.out.1.steps.kept HW.out.1) (HC.out.2.steps.kept HW.out.1) (by assumption)).mono ?_
 rintro e w3 ⟨hk,rfl⟩
 have HK:=hid' (HW.out.1.trans hk)
 clear hk
 have HF:=hid' (show r = decide (css = dss) by
  rw [HR.out,decide_eq_decide]
  exact ⟨fun e => congrArg Cd.steps e,fun e => by rw [x1,x2,x3,x7,e]⟩)
 clear f0 f1 f2 f3 f4 f5 f6 f7 g0 g1 g2 g3 g4 g5 g6 g7
 generalize decide (css = dss) = bb at HF ⊢
 cases bb <;>
 ·
  go_wp2_with fail
  go_ret
  exact ⟨HK.out,by rw [HF.out]; rfl⟩
end V
end Go.Proofs.YtfddbkhfokeioaaGreatDoor

namespace Go.Proofs.YtfddbkhfokeioaaGreatDoor
open Go.RowKit
namespace V
open Q (hid' parseOf Lett ErrV Tab okN textOf)
open X (bs OwnS RS strs bs_list bs_size)
theorem own_keptK' {w w':World} {B:Nat} {v:Value} {ws:List (List UInt8)} (h:OwnS B w v ws) (k:Kept w w'):OwnS B w' v ws:=own_kept h (fun b hb => k.block b (h.lt b hb).2)
structure CwI (w wr:World) (p:Nat) (t:TypeId) (cs:List Value) (u:Value) (ws:List (List UInt8)):Prop where
 kp:Kept w wr
 le:p≤w.heap.size
 row:RowL t wr p cs
 own:OwnS (w.heap.size + 1) wr u ws
theorem CwI.kept {w wr wr':World} {p:Nat} {t:TypeId} {cs:List Value} {u:Value} {ws:List (List UInt8)} (h:CwI w wr p t cs u ws) (k:Kept wr wr'):CwI w wr' p t cs u ws:=⟨h.kp.trans k,h.le,h.row.kept k,own_keptK' h.own k⟩
theorem CwI.add {w wr W3 W4:World} {p:Nat} {t:TypeId} {cs:List Value} {u:Value} {ws news:List (List UInt8)} {g n cap:Nat} (h:CwI w wr p t cs u ws) (KA:Kept wr W3) (own4:W4.ownsRow (w.heap.size + 1) 9 1 (.slice (some ⟨g,0,none⟩) n cap) n (strs ws ++ strs news)) (hn:n = ws.length + news.length) (hg:W3.grownBy W4 u.ownBlock) :
  CwI w W4 p t cs (.slice (some ⟨g,0,none⟩) n cap) (ws ++ news):=by
 have h3:=h.kept KA
 refine ⟨Below.grown h3.kp hg h3.kp.size (fun k hk => by have:=(h3.own.lt k hk).1; omega),h.le,h3.row.block (hg.block p h3.row.lt (fun e => by have:=(h3.own.lt p e.symm).1; have:=h.le; omega)),?_⟩
 unfold OwnS
 rw [X.strs_app,List.length_append,← hn]
 exact own4
def WwIs (k:Int) (xv sv:Value) (vs:List (Int × Int)) (ss:List Int) (w:World):Prop:=∀ V,Kept w V→Calls Tryz.prog 85 #[.agg #[.int .i64 k,xv,sv]] V fun e w' => Kept V w'∧∃ u,e = .returned u∧RS w' u (wwords k vs ss)
theorem wave_not (c:UInt8) (h:refC c = true ∨ valueC c = true):waveC c = false:=by
 rcases h with h | h
 ·
  have h1:=of_decide_eq_true h
  simp only [List.mem_cons,List.not_mem_nil,or_false] at h1
  rcases h1 with rfl | rfl | rfl | rfl | rfl <;> decide
 ·
  have h1:=of_decide_eq_true h
  simp only [List.mem_cons,List.not_mem_nil,or_false] at h1
  rcases h1 with rfl | rfl | rfl | rfl | rfl | rfl | rfl | rfl <;> decide
theorem lit_own (w:World) (B:Nat) (s:ByteArray) (hB:B≤w.heap.size):OwnS B (w.alloc (.cells #[.string s] 9)) (.slice (some ⟨w.heap.size,0,none⟩) 1 1) [s.data.toList]:=by
 refine ⟨rfl,.inr ⟨w.heap.size,1,#[.string s],rfl,hB,?_,Nat.le_refl _,by unfold maxLen; omega,rfl,rfl⟩⟩
 show (w.heap.push _)[w.heap.size]? = _
 simp
set_option maxRecDepth 100000 in
set_option maxHeartbeats 8000000 in
theorem cardWords_plain (a1 a2 a3:Option Addr) (n1 k1 n2 k2 n3 k3:Nat) (c:Cd) (w:World) (hL:Lett w) (hT:Tab w) (hc:CdR w a1 n1 k1 a2 n2 k2 a3 n3 k3 c) (hh:0 < c.name.length) (hl:(n1 + 1000) * 16≤140737488355328) (hw:waveC (c.name.getD 0 0) = false) :
  Calls Tryz.prog 47 #[cdV c (.slice a1 n1 k1) (.slice a2 n2 k2) (.slice a3 n3 k3)] w fun e w' => Kept w w'∧∃ u,e = .returned u∧OwnS w.heap.size w' u (cwords c):=by
 obtain ⟨cn,cnd,cr,⟨cm,cx⟩,ckd,cvs,css⟩:=c
 unfold cdV
 simp only at hh hw ⊢
 have HC:=hid' (And.intro hc (And.intro hL (And.intro hT (And.intro hh hw))))
 have HLN:=hid' (show n1 = cnd.length from rs_len hc.nodes)
 obtain ⟨s1,hs1⟩:∃ s,s = bs cn:=⟨_,rfl⟩
 obtain ⟨s3,hs3⟩:∃ s,s = bs cr:=⟨_,rfl⟩
 rw [← hs1,← hs3]
 have HE:=hid' (And.intro hs1 hs3)
 clear hs1 hs3 hc hL hT hh hw
 obtain ⟨i0,hi,hz0,hz1,hz2⟩:=info_parts X.info_str
 go_enter Tryz.func47,Tryz.ntmps47
 go_wp2_with fail
 have hK:=(Kept.refl w).alloc (.cells #[.string s1,.slice a1 n1 k1,.string s3,.int .i64 cm,.int .i64 cx,.int .i64 ckd,.slice a2 n2 k2,.slice a3 n3 k3] 32)
 have hA:=RowL.alloc 32 w [.string s1,.slice a1 n1 k1,.string s3,.int .i64 cm,.int .i64 cx,.int .i64 ckd,.slice a2 n2 k2,.slice a3 n3 k3]
 generalize w.alloc (.cells #[.string s1,.slice a1 n1 k1,.string s3,.int .i64 cm,.int .i64 cx,.int .i64 ckd,.slice a2 n2 k2,.slice a3 n3 k3] 32) = W0 at hK hA ⊢
 obtain ⟨p,hp⟩:∃ q,q = w.heap.size:=⟨_,rfl⟩
 rw [← hp] at hA ⊢
 refine (anew_any s1 _).mono ?_
 rintro e w1 ⟨hk1,rfl⟩
 have hA:=hA.kept hk1
 have f1:=hA.cell 1 (.slice a1 n1 k1)
 have f1':=(hA.kept ((Kept.refl w1).alloc (.cells #[.string s1] 9))).cell 1 (.slice a1 n1 k1)
 have HP:=hid' hp
 have HW:=hid' (And.intro (hK.trans hk1) hA)
 clear hK hA hk1 hp
 go_wp2_with fail
 have HI0:Hid (CwI w _ p 32 [.string s1,.slice a1 n1 k1,.string s3,.int .i64 cm,.int .i64 cx,.int .i64 ckd,.slice a2 n2 k2,.slice a3 n3 k3] (.slice (some ⟨w1.heap.size,0,none⟩) 1 1) [s1.data.toList]):=⟨HW.out.1.alloc (.cells #[.string s1] 9),by rw [HP.out]; exact Nat.le_refl _,HW.out.2.kept ((Kept.refl w1).alloc (.cells #[.string s1] 9)),lit_own w1 _ s1 (by have:=HW.out.2.lt; have:=HP.out; omega)⟩
 generalize w1.alloc (.cells #[.string s1] 9) = W1 at HI0 f1' ⊢
 generalize (Value.slice (some ⟨w1.heap.size,0,none⟩) 1 1) = u0 at HI0 ⊢
 go_loopw [3,14] (fun vu vi wr => ∃ k:Nat,k≤n1∧vi = .int .i64 (k:Int)∧Hid (CwI w wr p 32 [.string s1,.slice a1 n1 k1,.string s3,.int .i64 cm,.int .i64 cx,.int .i64 ckd,.slice a2 n2 k2,.slice a3 n3 k3] vu ([s1.data.toList] ++ cnd.take k))) (fun _ vi _ => n1 - (intOf vi).toNat)
 case atStart => exact ⟨0,Nat.zero_le _,rfl,by rw [List.take_zero,List.append_nil]; exact HI0.out⟩
 case round =>
  obtain ⟨k,hk,rfl,HI⟩:=hrel
  clear HI0
  by_cases hkt:k < n1
  ·
   have hki:(k:Int) < (n1:Int):=by omega
   obtain ⟨ao',c',hv',hx⟩:=HC.out.1.nodes.kept HI.out.kp
   simp only [Value.slice.injEq] at hv'
   obtain ⟨rfl,hnw0,rfl⟩:=hv'
   clear hnw0
   have hnw:n1 = cnd.length:=HLN.out
   obtain ⟨b,off,rfl,hb,hcl⟩:=hx (show 0 < cnd.length by omega)
   have q0:wr.cell? ⟨b,off + k,none⟩ = some (.string (bs (cnd.getD k []))):=hcl k (show k < cnd.length by omega)
   obtain ⟨sk,hsk⟩:∃ s,s = bs (cnd.getD k []):=⟨_,rfl⟩
   rw [← hsk] at q0
   have HTK:=hid' (show [s1.data.toList] ++ cnd.take k ++ [sk.data.toList] = [s1.data.toList] ++ cnd.take (k + 1) by
    rw [hsk,bs_list,List.append_assoc,List.take_succ_eq_append_getElem (by omega)]
    simp [List.getElem?_eq_getElem (show k < cnd.length by omega)])
   obtain ⟨wk,hwk⟩:∃ l,l = [s1.data.toList] ++ cnd.take k:=⟨_,rfl⟩
   rw [← hwk] at HI HTK
   have HLW:=hid' (show wk.length≤n1 + 1 by rw [hwk,List.length_append,List.length_take]; simp; omega)
   clear hx hcl hnw hsk hwk
   go_wp2_with fail
   refine (anew_any sk _).mono ?_
   rintro e w2 ⟨hk2,rfl⟩
   have HI:=hid' (HI.out.kept hk2)
   clear hk2
   have KA:=(Kept.refl w2).alloc (.cells #[.string sk] 9)
   go_wp2_with (at_builtin; refine wpList_append_lies _ rfl (.tmp 18) (.tmp 21) 22 rfl (w.heap.size + 1) 9 i0 (.string ByteArray.empty) 1 16 X.und_strs hi hz0 hz1 hz2 rfl (by decide) u3 wk.length (strs wk) rfl (by exact (HI.out.kept KA).own) ⟨w2.heap.size,0,none⟩ 1 1 [.string sk] rfl rfl (X.cell_new w2 _ _) (fun u hu => by simp at hu; subst hu; rfl) (by omega) (by have:=HLW.out; unfold maxLen; omega) (by have:=HLW.out; omega) (by have:=HI.out.kp.size; have:=HI.out.row.lt; have:=HI.out.le; have:=HP.out; simp; omega) _ rfl ?_)
   intro g4 cap4 W4 own4 hg4 hgg _
   have HI:=hid' (HI.out.add (news:=[sk.data.toList]) KA own4 rfl hg4)
   clear own4 hg4 hgg KA
   go_wp2_with fail
   go_roundw
   case rel => exact ⟨k + 1,by omega,by go_num,by rw [← HTK.out]; exact HI.out⟩
   case measure => show n1 - ((k:Int) + 1).toNat < n1 - (k:Int).toNat; omega
  ·
   have hki:¬ (k:Int) < (n1:Int):=by omega
   obtain rfl:k = n1:=by omega
   rw [List.take_of_length_le (by rw [← HLN.out]; exact Nat.le_refl _)] at HI
   have f0:=HI.out.row.cell 0 (.string s1)
   have hs1:0 < s1.size:=by rw [HE.out.1,bs_size]; exact HC.out.2.2.2.1
   have hs1':(0:Int) < (s1.size:Int):=by omega
   have HQ:=hid' (show s1[0] = cn.getD 0 0 from head_of hs1 HE.out.1)
   have HCW:=hid' (show cwords ⟨cn,cnd,cr,(cm,cx),ckd,cvs,css⟩ = [s1.data.toList] ++ cnd ++ (if refC s1[0] = true then [cr] else []) ++ (if valueC s1[0] = true then [tx (cm,cx)] else []) ++ (if waveC s1[0] = true then wwords ckd cvs css else []) by
    unfold cwords
    rw [HQ.out,HE.out.1,bs_list])
   go_wp2_with fail
   refine (among_is s1[0] ⟨#[102,104,100,115,120]⟩ [102,104,100,115,120] _ rfl).mono ?_
   rintro e w2 ⟨rfl,rfl⟩
   rw [show decide (s1[0] ∈ ([102,104,100,115,120]:List UInt8)) = refC s1[0] from rfl]
   obtain ⟨sv,hsv⟩:∃ s,s = bs (tx (cm,cx)):=⟨_,rfl⟩
   have HLW:=hid' (show ([s1.data.toList] ++ cnd).length≤k + 1 by rw [List.length_append,← HLN.out]; simp only [List.length_cons,List.length_nil]; omega)
   have HSV:=hid' hsv
   clear hsv
   have f2:=HI.out.row.cell 2 (.string s3)
   have f3:=HI.out.row.cell 3 (.int .i64 cm)
   have f4:=HI.out.row.cell 4 (.int .i64 cx)
   have f5:=HI.out.row.cell 5 (.int .i64 ckd)
   have f6:=HI.out.row.cell 6 (.slice a2 n2 k2)
   have f7:=HI.out.row.cell 7 (.slice a3 n3 k3)
   cases hr:refC s1[0]
   ·
    go_wp2_with fail
    refine (among_is s1[0] ⟨#[114,99,108,101,103,102,104,116]⟩ [114,99,108,101,103,102,104,116] _ rfl).mono ?_
    rintro e WV ⟨rfl,rfl⟩
    rw [show decide (s1[0] ∈ ([114,99,108,101,103,102,104,116]:List UInt8)) = valueC s1[0] from rfl]
    cases hv:valueC s1[0]
    ·
     go_wp2_with fail
     refine (among_is s1[0] ⟨#[118,105]⟩ [118,105] _ rfl).mono ?_
     rintro e WV ⟨rfl,rfl⟩
     rw [show decide (s1[0] ∈ ([118,105]:List UInt8)) = waveC s1[0] from rfl]
     cases hw:waveC s1[0]
     ·
      have HFW:=hid' (show cwords ⟨cn,cnd,cr,(cm,cx),ckd,cvs,css⟩ = [s1.data.toList] ++ cnd by rw [HCW.out,hr,hv,hw]; simp)
      go_wp2_with fail
      go_ret
      exact ⟨HI.out.kp,_,rfl,by rw [HFW.out]; exact own_mono HI.out.own (Nat.le_succ _)⟩
     ·
      exact absurd (show waveC (cn.getD 0 0) = true by rw [← HQ.out]; exact hw) (by rw [HC.out.2.2.2.2]; decide)
    ·
     have hw:=wave_not s1[0] (.inr hv)
     go_wp2_with fail
     refine (ctext_any cm cx _ (HC.out.2.1.kept HI.out.kp) (HC.out.2.2.1.kept HI.out.kp)).mono ?_
     rintro e w4 ⟨hk4,rfl⟩
     have HI:=hid' (HI.out.kept hk4)
     rw [← HSV.out]
     clear f0 f2 f3 f4 f5 f6 f7
     clear hk4
     have KA:=(Kept.refl w4).alloc (.cells #[.string sv] 9)
     go_wp2_with (at_builtin; refine wpList_append_lies _ rfl (.tmp 37) (.tmp 41) 22 rfl (w.heap.size + 1) 9 i0 (.string ByteArray.empty) 1 16 X.und_strs hi hz0 hz1 hz2 rfl (by decide) u3 ([s1.data.toList] ++ cnd).length (strs ([s1.data.toList] ++ cnd)) rfl (by exact (HI.out.kept KA).own) ⟨w4.heap.size,0,none⟩ 1 1 [.string sv] rfl rfl (X.cell_new w4 _ _) (fun u hu => by simp at hu; subst hu; rfl) (by omega) (by have:=HLW.out; unfold maxLen; omega) (by have:=HLW.out; omega) (by have:=HI.out.kp.size; have:=HI.out.row.lt; have:=HI.out.le; have:=HP.out; simp; omega) _ rfl ?_)
     intro g4 cap4 W4 own4 hg4 hgg _
     have HI:=hid' (HI.out.add (news:=[sv.data.toList]) KA own4 rfl hg4)
     clear own4 hg4 hgg KA
     have f0:=HI.out.row.cell 0 (.string s1)
     have f2:=HI.out.row.cell 2 (.string s3)
     have f3:=HI.out.row.cell 3 (.int .i64 cm)
     have f4:=HI.out.row.cell 4 (.int .i64 cx)
     have f5:=HI.out.row.cell 5 (.int .i64 ckd)
     have f6:=HI.out.row.cell 6 (.slice a2 n2 k2)
     have f7:=HI.out.row.cell 7 (.slice a3 n3 k3)
     go_wp2_with fail
     refine (among_is s1[0] ⟨#[118,105]⟩ [118,105] _ rfl).mono ?_
     rintro e WV ⟨rfl,rfl⟩
     rw [show decide (s1[0] ∈ ([118,105]:List UInt8)) = waveC s1[0] from rfl]
     rw [hw]
     have HFW:=hid' (show cwords ⟨cn,cnd,cr,(cm,cx),ckd,cvs,css⟩ = [s1.data.toList] ++ cnd ++ [sv.data.toList] by rw [HCW.out,hr,hv,hw]; simp [HSV.out,bs_list])
     go_wp2_with fail
     go_ret
     exact ⟨HI.out.kp,_,rfl,by rw [HFW.out]; exact own_mono HI.out.own (Nat.le_succ _)⟩
   ·
    have hw:=wave_not s1[0] (.inl hr)
    go_wp2_with fail
    refine (anew_any s3 _).mono ?_
    rintro e w3 ⟨hk3,rfl⟩
    have HI:=hid' (HI.out.kept hk3)
    clear f0 f2 f3 f4 f5 f6 f7
    clear hk3
    have KA:=(Kept.refl w3).alloc (.cells #[.string s3] 9)
    go_wp2_with (at_builtin; refine wpList_append_lies _ rfl (.tmp 29) (.tmp 33) 22 rfl (w.heap.size + 1) 9 i0 (.string ByteArray.empty) 1 16 X.und_strs hi hz0 hz1 hz2 rfl (by decide) u3 ([s1.data.toList] ++ cnd).length (strs ([s1.data.toList] ++ cnd)) rfl (by exact (HI.out.kept KA).own) ⟨w3.heap.size,0,none⟩ 1 1 [.string s3] rfl rfl (X.cell_new w3 _ _) (fun u hu => by simp at hu; subst hu; rfl) (by omega) (by have:=HLW.out; unfold maxLen; omega) (by have:=HLW.out; omega) (by have:=HI.out.kp.size; have:=HI.out.row.lt; have:=HI.out.le; have:=HP.out; simp; omega) _ rfl ?_)
    intro g4 cap4 W4 own4 hg4 hgg _
    have HI:=hid' (HI.out.add (news:=[s3.data.toList]) KA own4 rfl hg4)
    clear own4 hg4 hgg KA
    have f0:=HI.out.row.cell 0 (.string s1)
    have f2:=HI.out.row.cell 2 (.string s3)
    have f3:=HI.out.row.cell 3 (.int .i64 cm)
    have f4:=HI.out.row.cell 4 (.int .i64 cx)
    have f5:=HI.out.row.cell 5 (.int .i64 ckd)
    have f6:=HI.out.row.cell 6 (.slice a2 n2 k2)
    have f7:=HI.out.row.cell 7 (.slice a3 n3 k3)
    go_wp2_with fail
    refine (among_is s1[0] ⟨#[114,99,108,101,103,102,104,116]⟩ [114,99,108,101,103,102,104,116] _ rfl).mono ?_
    rintro e WV ⟨rfl,rfl⟩
    rw [show decide (s1[0] ∈ ([114,99,108,101,103,102,104,116]:List UInt8)) = valueC s1[0] from rfl]
    cases hv:valueC s1[0]
    ·
     go_wp2_with fail
     refine (among_is s1[0] ⟨#[118,105]⟩ [118,105] _ rfl).mono ?_
     rintro e WV ⟨rfl,rfl⟩
     rw [show decide (s1[0] ∈ ([118,105]:List UInt8)) = waveC s1[0] from rfl]
     rw [hw]
     have HFW:=hid' (show cwords ⟨cn,cnd,cr,(cm,cx),ckd,cvs,css⟩ = [s1.data.toList] ++ cnd ++ [s3.data.toList] by rw [HCW.out,hr,hv,hw]; simp [HE.out.2,bs_list])
     go_wp2_with fail
     go_ret
     exact ⟨HI.out.kp,_,rfl,by rw [HFW.out]; exact own_mono HI.out.own (Nat.le_succ _)⟩
    ·
     have HLW:=hid' (show ([s1.data.toList] ++ cnd ++ [s3.data.toList]).length≤k + 2 by rw [List.length_append]; have:=HLW.out; simp only [List.length_cons,List.length_nil]; omega)
     go_wp2_with fail
     refine (ctext_any cm cx _ (HC.out.2.1.kept HI.out.kp) (HC.out.2.2.1.kept HI.out.kp)).mono ?_
     rintro e w4 ⟨hk4,rfl⟩
     have HI:=hid' (HI.out.kept hk4)
     rw [← HSV.out]
     clear f0 f2 f3 f4 f5 f6 f7
     clear hk4
     have KA:=(Kept.refl w4).alloc (.cells #[.string sv] 9)
     go_wp2_with (at_builtin; refine wpList_append_lies _ rfl (.tmp 37) (.tmp 41) 22 rfl (w.heap.size + 1) 9 i0 (.string ByteArray.empty) 1 16 X.und_strs hi hz0 hz1 hz2 rfl (by decide) (.slice (some ⟨g4,0,none⟩) (([s1.data.toList] ++ cnd).length + 1) cap4) ([s1.data.toList] ++ cnd ++ [s3.data.toList]).length (strs ([s1.data.toList] ++ cnd ++ [s3.data.toList])) rfl (by exact (HI.out.kept KA).own) ⟨w4.heap.size,0,none⟩ 1 1 [.string sv] rfl rfl (X.cell_new w4 _ _) (fun u hu => by simp at hu; subst hu; rfl) (by omega) (by have:=HLW.out; unfold maxLen; omega) (by have:=HLW.out; omega) (by have:=HI.out.kp.size; have:=HI.out.row.lt; have:=HI.out.le; have:=HP.out; simp; omega) _ rfl ?_)
     intro g4 cap4 W4 own4 hg4 hgg _
     have HI:=hid' (HI.out.add (news:=[sv.data.toList]) KA own4 (by simp) hg4)
     clear own4 hg4 hgg KA
     have f0:=HI.out.row.cell 0 (.string s1)
     have f2:=HI.out.row.cell 2 (.string s3)
     have f3:=HI.out.row.cell 3 (.int .i64 cm)
     have f4:=HI.out.row.cell 4 (.int .i64 cx)
     have f5:=HI.out.row.cell 5 (.int .i64 ckd)
     have f6:=HI.out.row.cell 6 (.slice a2 n2 k2)
     have f7:=HI.out.row.cell 7 (.slice a3 n3 k3)
     go_wp2_with fail
     refine (among_is s1[0] ⟨#[118,105]⟩ [118,105] _ rfl).mono ?_
     rintro e WV ⟨rfl,rfl⟩
     rw [show decide (s1[0] ∈ ([118,105]:List UInt8)) = waveC s1[0] from rfl]
     rw [hw]
     have HFW:=hid' (show cwords ⟨cn,cnd,cr,(cm,cx),ckd,cvs,css⟩ = [s1.data.toList] ++ cnd ++ [s3.data.toList] ++ [sv.data.toList] by rw [HCW.out,hr,hv,hw]; simp [HE.out.2,HSV.out,bs_list])
     go_wp2_with fail
     go_ret
     exact ⟨HI.out.kp,_,rfl,by rw [HFW.out]; exact own_mono HI.out.own (Nat.le_succ _)⟩
end V
end Go.Proofs.YtfddbkhfokeioaaGreatDoor

namespace Go.Proofs.YtfddbkhfokeioaaGreatDoor
open Go.RowKit
namespace V
open Q (hid' parseOf Lett ErrV Tab okN textOf)
open X (bs OwnS RS strs bs_list bs_size)
def mw (gs vs:List (Int × Int)):Nat→List (List UInt8)
 | 0 => []
 | k + 1 => mw gs vs k ++ (if k = 0 then [] else [tx (vs.getD (k - 1) (0,0))]) ++ [tx (gs.getD k (0,0))]
def mwords (m:Md):List (List UInt8):=[[46,109,111,100,101,108],m.name,[m.kind.toNat.toUInt8]] ++ mw m.gs m.vs m.gs.length
theorem mw_len (gs vs:List (Int × Int)):∀ k,(mw gs vs k).length≤2 * k
 | 0 => Nat.le_refl _
 | k + 1 => by
  have:=mw_len gs vs k
  rw [mw,List.length_append,List.length_append]
  split <;> simp only [List.length_cons,List.length_nil] <;> omega
def WmIs (B:Nat) (w:World) (e:Ending) (m:Md):Prop :=
 (okM m.name m.kind m.gs m.vs = false∧e = .returned (.tuple #[.slice none 0 0,.int .i64 50])) ∨ (okM m.name m.kind m.gs m.vs = true∧∃ u,e = .returned (.tuple #[u,.int .i64 0])∧OwnS B w u (mwords m))
theorem okM_kind {s:List UInt8} {k:Int} {gs vs:List (Int × Int)} (h:okM s k gs vs = true):(k = 100 ∨ k = 115)∧gs.length = vs.length + 1∧gs.length≤4∧s.length≤16:=by
 unfold okM at h
 simp only [Bool.and_eq_true] at h
 have h1:=h.1.1.1.2
 have h2:=okName_len h.1.1.1.1
 unfold fitsM at h1
 split at h1
 ·
  rename_i e; have:=of_decide_eq_true h1; exact ⟨.inl e,this.1,this.2,h2⟩
 ·
  split at h1
  ·
   rename_i e; have:=of_decide_eq_true h1; exact ⟨.inr e,by omega,by omega,h2⟩
  ·
   cases h1
theorem str_one (k:Int):strOfNums [k] = ⟨#[k.toNat.toUInt8]⟩:=rfl
theorem lit3_own (w:World) (B:Nat) (s t u:ByteArray) (hB:B≤w.heap.size):OwnS B (w.alloc (.cells #[.string s,.string t,.string u] 9)) (.slice (some ⟨w.heap.size,0,none⟩) 3 3) [s.data.toList,t.data.toList,u.data.toList]:=by
 refine ⟨rfl,.inr ⟨w.heap.size,3,#[.string s,.string t,.string u],rfl,hB,?_,Nat.le_refl _,by unfold maxLen; omega,rfl,rfl⟩⟩
 show (w.heap.push _)[w.heap.size]? = _
 simp
set_option maxRecDepth 100000 in
set_option maxHeartbeats 8000000 in
theorem writeM_any (s:ByteArray) (k:Int) (a1 a2:Option Addr) (n c n2 c2:Nat) (gs vs:List (Int × Int)) (w:World) (hL:Lett w) (hT:Tab w) (hs:s.size≤9223372036854775807) (h1:NSl w (.slice a1 n c) gs) (h2:NSl w (.slice a2 n2 c2) vs) (hn:n≤4611686018427387903) (hm:n2≤4611686018427387903) :
  Calls Tryz.prog 18 #[.agg #[.string s,.int .u8 k,.slice a1 n c,.slice a2 n2 c2]] w fun e w' => Kept w w'∧WmIs w.heap.size w' e ⟨s.data.toList,k,gs,vs⟩:=by
 have HC0:=hid' (And.intro hL (And.intro hT (And.intro h1 h2)))
 have hva:=fun V (K:Kept w V) => validM_any s k a1 a2 n c n2 c2 gs vs V hs (h1.kept K) (h2.kept K) hn hm
 have HLN:=hid' (And.intro h1.len h2.len)
 clear hL hT h1 h2
 obtain ⟨i0,hi,hz0,hz1,hz2⟩:=info_parts X.info_str
 cases hok:okM s.data.toList k gs vs
 ·
  rw [hok] at hva
  have HOK:=hid' hok
  go_enter Tryz.func18,Tryz.ntmps18
  go_wp2_with fail
  refine (hva _ ((Kept.refl w).alloc _)).mono ?_
  rintro e w1 ⟨hk,rfl⟩
  have HK:=hid' (((Kept.refl w).alloc _).trans hk)
  clear hk hva
  go_wp2_with fail
  go_ret2
  exact ⟨HK.out,.inl ⟨HOK.out,rfl⟩⟩
 ·
  rw [hok] at hva
  have HOK:=hid' (And.intro hok (okM_kind hok))
  clear hok
  go_enter Tryz.func18,Tryz.ntmps18
  go_wp2_with fail
  have hK:=(Kept.refl w).alloc (.cells #[.string s,.int .u8 k,.slice a1 n c,.slice a2 n2 c2] 43)
  have hA:=RowL.alloc 43 w [.string s,.int .u8 k,.slice a1 n c,.slice a2 n2 c2]
  generalize w.alloc (.cells #[.string s,.int .u8 k,.slice a1 n c,.slice a2 n2 c2] 43) = W0 at hK hA ⊢
  refine (hva _ hK).mono ?_
  rintro e w1 ⟨hk1,rfl⟩
  obtain ⟨p,hp⟩:∃ q,q = w.heap.size:=⟨_,rfl⟩
  rw [← hp] at hA ⊢
  have HP:=hid' hp
  have HW:=hid' (And.intro (hK.trans hk1) (hA.kept hk1))
  clear hK hA hk1 hva hp
  go_upto_region 3 with fail
  go_cut [4] (fun v4 wc => ∃ g,v4 = .slice (some ⟨g,0,none⟩) 3 3∧Hid (Kept w1 wc∧OwnS (w.heap.size + 1) wc (.slice (some ⟨g,0,none⟩) 3 3) [[46,109,111,100,101,108],s.data.toList,[k.toNat.toUInt8]]))
  case first =>
   have sS:=hid' (fun (V:World) (K:Kept w1 V) => And.intro ((HW.out.2.kept K).cell 0 (.string s)) ((HW.out.2.kept K).cell 1 (.int .u8 k)))
   have KT:Kept w1 w1.drew:=(Kept.refl _).drew
   refine wp_region_held_drew (S:=fun w' => w'.cell? ⟨p,0,none⟩ = some (.string s)∧w'.cell? ⟨p,1,none⟩ = some (.int .u8 k)) (by kernel_rfl) (sS.out _ KT) (fun hHeld => ?_)
   generalize w1.drew = Wd at KT hHeld ⊢
   refine tk 0 hHeld ?_
   refine tk 1 hHeld ?_
   refine tk 3 hHeld ?_
   refine tk 4 hHeld ?_
   refine wpAnyH_ready (rs:=[2,5]) (by kernel_rfl) (by simp) ?_
   refine AllReadyH.cons rfl (fun K hK => ?_) (AllReadyH.cons rfl (fun K hK => ?_) AllReadyH.nil)
   ·
    go_simp
    refine (anew_any s _).mono ?_
    rintro e w2 ⟨hk2,rfl⟩
    have KT:=KT.trans hk2
    refine hK.out _ _ (sS.out _ KT) (fun hHeld => ?_)
    clear hK K hk2
    refine rdy 5 fun K hK => ?_
    go_simp
    refine hK.out _ _ (sS.out _ (KT.alloc _)) (fun hHeld => ?_)
    clear hK K
    have HBc:(w2.alloc (.cells #[.int .u8 k] 5)).cell? ⟨w2.heap.size,0,none⟩ = some (.int .u8 k):=by simp
    have KT:=KT.alloc (.cells #[.int .u8 k] 5)
    obtain ⟨gb,hgb⟩:∃ q,q = w2.heap.size:=⟨_,rfl⟩
    have hgl:w2.heap.size < (w2.alloc (.cells #[.int .u8 k] 5)).heap.size:=by simp
    rw [← hgb] at HBc hgl ⊢
    generalize w2.alloc (.cells #[.int .u8 k] 5) = WB at KT HBc hgl hHeld ⊢
    clear hgb
    refine rdy 6 fun K hK => ?_
    have hcv:=run_convert_bytes_arg (P:=Tryz.prog) WB 78 5 Tryz.underlying78 Tryz.underlying5 gb 0 1 1 [k] rfl (fun j hj => by
     obtain rfl:j = 0:=by omega
     exact HBc) 9 Tryz.underlying9
    rw [str_one] at hcv
    go_simp
    refine hK.out _ _ (sS.out _ KT) (fun hHeld => ?_)
    clear hK K hcv
    refine rdy 7 fun K hK => ?_
    go_simp
    refine hK.out _ _ (sS.out _ (KT.alloc _)) (fun hHeld => ?_)
    clear hK K
    have hO:=lit3_own WB (w.heap.size + 1) ⟨#[46,109,111,100,101,108]⟩ s ⟨#[k.toNat.toUInt8]⟩ (by have h1:=KT.size; have h2:=HW.out.2.lt; have h3:=HP.out; omega)
    have HF:=hid' (And.intro (KT.alloc (.cells #[.string ⟨#[46,109,111,100,101,108]⟩,.string s,.string ⟨#[k.toNat.toUInt8]⟩] 9)) hO)
    clear hO
    refine tk 8 hHeld ?_
    refine dn ?_
    go_wp2_with fail
    go_meet
    case rel => exact ⟨_,rfl,HF.out⟩
   ·
    go_simp
    refine hK.out _ _ (sS.out _ (KT.alloc _)) (fun hHeld => ?_)
    clear hK K
    have HBc:(Wd.alloc (.cells #[.int .u8 k] 5)).cell? ⟨Wd.heap.size,0,none⟩ = some (.int .u8 k):=by simp
    have KT:=KT.alloc (.cells #[.int .u8 k] 5)
    obtain ⟨gb,hgb⟩:∃ q,q = Wd.heap.size:=⟨_,rfl⟩
    have hgl:Wd.heap.size < (Wd.alloc (.cells #[.int .u8 k] 5)).heap.size:=by simp
    rw [← hgb] at HBc hgl ⊢
    generalize Wd.alloc (.cells #[.int .u8 k] 5) = WB at KT HBc hgl hHeld ⊢
    clear hgb
    refine wpAnyH_ready (rs:=[2,6]) (by kernel_rfl) (by simp) ?_
    refine AllReadyH.cons rfl (fun K hK => ?_) (AllReadyH.cons rfl (fun K hK => ?_) AllReadyH.nil)
    ·
     go_simp
     refine (anew_any s _).mono ?_
     rintro e w2 ⟨hk2,rfl⟩
     have KT:=KT.trans hk2
     have HBc:=(Below.cell hk2 (p:=⟨gb,0,none⟩) hgl).trans HBc
     refine hK.out _ _ (sS.out _ KT) (fun hHeld => ?_)
     clear hK K hk2
     refine rdy 6 fun K hK => ?_
     have hcv:=run_convert_bytes_arg (P:=Tryz.prog) w2 78 5 Tryz.underlying78 Tryz.underlying5 gb 0 1 1 [k] rfl (fun j hj => by
      obtain rfl:j = 0:=by omega
      exact HBc) 9 Tryz.underlying9
     rw [str_one] at hcv
     go_simp
     refine hK.out _ _ (sS.out _ KT) (fun hHeld => ?_)
     clear hK K hcv
     refine rdy 7 fun K hK => ?_
     go_simp
     refine hK.out _ _ (sS.out _ (KT.alloc _)) (fun hHeld => ?_)
     clear hK K
     have hO:=lit3_own w2 (w.heap.size + 1) ⟨#[46,109,111,100,101,108]⟩ s ⟨#[k.toNat.toUInt8]⟩ (by have h1:=KT.size; have h2:=HW.out.2.lt; have h3:=HP.out; omega)
     have HF:=hid' (And.intro (KT.alloc (.cells #[.string ⟨#[46,109,111,100,101,108]⟩,.string s,.string ⟨#[k.toNat.toUInt8]⟩] 9)) hO)
     clear hO
     refine tk 8 hHeld ?_
     refine dn ?_
     go_wp2_with fail
     go_meet
     case rel => exact ⟨_,rfl,HF.out⟩
    ·
     have hcv:=run_convert_bytes_arg (P:=Tryz.prog) WB 78 5 Tryz.underlying78 Tryz.underlying5 gb 0 1 1 [k] rfl (fun j hj => by
      obtain rfl:j = 0:=by omega
      exact HBc) 9 Tryz.underlying9
     rw [str_one] at hcv
     go_simp
     refine hK.out _ _ (sS.out _ KT) (fun hHeld => ?_)
     clear hK K hcv
     refine rdy 2 fun K hK => ?_
     go_simp
     refine (anew_any s _).mono ?_
     rintro e w2 ⟨hk2,rfl⟩
     have KT:=KT.trans hk2
     refine hK.out _ _ (sS.out _ KT) (fun hHeld => ?_)
     clear hK K hk2
     refine rdy 7 fun K hK => ?_
     go_simp
     refine hK.out _ _ (sS.out _ (KT.alloc _)) (fun hHeld => ?_)
     clear hK K
     have hO:=lit3_own w2 (w.heap.size + 1) ⟨#[46,109,111,100,101,108]⟩ s ⟨#[k.toNat.toUInt8]⟩ (by have h1:=KT.size; have h2:=HW.out.2.lt; have h3:=HP.out; omega)
     have HF:=hid' (And.intro (KT.alloc (.cells #[.string ⟨#[46,109,111,100,101,108]⟩,.string s,.string ⟨#[k.toNat.toUInt8]⟩] 9)) hO)
     clear hO
     refine tk 8 hHeld ?_
     refine dn ?_
     go_wp2_with fail
     go_meet
     case rel => exact ⟨_,rfl,HF.out⟩
  case rest =>
   obtain ⟨g,rfl,HC⟩:=hcut
   have HI0:Hid (CwI w wc p 43 [.string s,.int .u8 k,.slice a1 n c,.slice a2 n2 c2] (.slice (some ⟨g,0,none⟩) 3 3) ([[46,109,111,100,101,108],s.data.toList,[k.toNat.toUInt8]] ++ mw gs vs 0)):=⟨HW.out.1.trans HC.out.1,by rw [HP.out]; exact Nat.le_refl _,HW.out.2.kept HC.out.1,by rw [mw,List.append_nil]; exact HC.out.2⟩
   generalize (Value.slice (some ⟨g,0,none⟩) 3 3) = u0 at HI0 ⊢
   have f2:=HI0.out.row.cell 2 (.slice a1 n c)
   have hn4:n≤4:=by have h1:=HOK.out.2.2.2.1; have h2:=HLN.out.1; omega
   go_wp2_with fail
   go_loopw [4,21] (fun vu vi wr => ∃ j:Nat,j≤n∧vi = .int .i64 (j:Int)∧Hid (CwI w wr p 43 [.string s,.int .u8 k,.slice a1 n c,.slice a2 n2 c2] vu ([[46,109,111,100,101,108],s.data.toList,[k.toNat.toUInt8]] ++ mw gs vs j))) (fun _ vi _ => n - (intOf vi).toNat)
   case atStart => exact ⟨0,Nat.zero_le _,rfl,HI0.out⟩
   case round =>
    obtain ⟨j,hj,rfl,HI⟩:=hrel
    clear HI0 f2
    by_cases hjt:j < n
    ·
     have hji:(j:Int) < (n:Int):=by omega
     obtain ⟨ao',c',hv',hx⟩:=HC0.out.2.2.1.kept HI.out.kp
     simp only [Value.slice.injEq] at hv'
     obtain ⟨rfl,hnw0,rfl⟩:=hv'
     clear hnw0
     have hnw:n = gs.length:=HLN.out.1
     obtain ⟨b,off,rfl,hb,hcl⟩:=hx (by omega)
     obtain ⟨q0,q1⟩:=hcl j (by omega)
     have hbw:¬ b = wr.heap.size:=by omega
     generalize hy:gs.getD j (0,0) = y at q0 q1
     obtain ⟨y0,y1⟩:=y
     simp only at q0 q1
     have HY:=hid' hy
     clear hx hcl hnw hy
     obtain ⟨wk,hwk⟩:∃ l,l = [[46,109,111,100,101,108],s.data.toList,[k.toNat.toUInt8]] ++ mw gs vs j:=⟨_,rfl⟩
     rw [← hwk] at HI
     have HWK:=hid' hwk
     have HLW:=hid' (show wk.length≤100 by rw [hwk,List.length_append]; have:=mw_len gs vs j; simp only [List.length_cons,List.length_nil]; omega)
     clear hwk
     have kN:=(Kept.refl wr).alloc (.cells #[.int .i64 y0,.int .i64 y1] 26)
     have hNr:=Q.Row2.alloc 26 wr (.int .i64 y0) (.int .i64 y1)
     have HI:=hid' (HI.out.kept kN)
     by_cases hj0:j = 0
     ·
      have hjn:¬ (0:Int) < (j:Int):=by omega
      have HJ0:=hid' hj0
      clear hj0
      go_wp2_with fail
      generalize wr.alloc (.cells #[.int .i64 y0,.int .i64 y1] 26) = W1 at HI hNr ⊢
      clear kN
      refine (ctext_any y0 y1 _ (HC0.out.1.kept HI.out.kp) (HC0.out.2.1.kept HI.out.kp)).mono ?_
      rintro e w4 ⟨hkt,rfl⟩
      obtain ⟨tv,htv⟩:∃ t,t = bs (tx (y0,y1)):=⟨_,rfl⟩
      rw [← htv]
      have Htv:=hid' htv
      have HI:=hid' (HI.out.kept hkt)
      have hNr:=hNr.kept hkt
      clear htv hkt
      clear hNr
      have KA:=(Kept.refl w4).alloc (.cells #[.string tv] 9)
      go_wp2_with (at_builtin; refine wpList_append_lies _ rfl (.tmp 38) (.tmp 41) 22 rfl (w.heap.size + 1) 9 i0 (.string ByteArray.empty) 1 16 X.und_strs hi hz0 hz1 hz2 rfl (by decide) u4 wk.length (strs wk) rfl (by exact (HI.out.kept KA).own) ⟨w4.heap.size,0,none⟩ 1 1 [.string tv] rfl rfl (X.cell_new w4 _ _) (fun u hu => by simp at hu; subst hu; rfl) (by omega) (by have:=HLW.out; unfold maxLen; omega) (by have:=HLW.out; omega) (by have:=HI.out.kp.size; have:=HI.out.row.lt; have:=HI.out.le; have:=HP.out; simp; omega) _ rfl ?_)
      intro g4 cap4 W4 own4 hg4 hgg _
      have HI:=hid' (HI.out.add (news:=[tv.data.toList]) KA own4 rfl hg4)
      clear own4 hg4 hgg KA
      go_wp2_with fail
      go_roundw
      case rel =>
       refine ⟨j + 1,by omega,by go_num,?_⟩
       rw [mw,HY.out,← bs_list (tx (y0,y1)),← Htv.out,if_pos HJ0.out,List.append_nil,← List.append_assoc,← HWK.out]
       exact HI.out
      case measure => show n - ((j:Int) + 1).toNat < n - (j:Int).toNat; omega
     ·
      obtain ⟨i,rfl⟩:∃ i,j = i + 1:=⟨j - 1,by omega⟩
      have hwr:IntKind.i64.wrap ((i:Int) + 1 - 1) = (i:Int):=by rw [IntKind.wrap_i64]; omega
      have hip:(0:Int) < (i:Int) + 1:=by omega
      have hil:i < n2:=by have h1:=HOK.out.2.2.1; have h2:=HLN.out; omega
      have hili:(i:Int) < (n2:Int):=by omega
      obtain ⟨ao2,cc2,hv2,hx2⟩:=HC0.out.2.2.2.kept HI.out.kp
      simp only [Value.slice.injEq] at hv2
      obtain ⟨rfl,hn20,rfl⟩:=hv2
      clear hn20
      have hnw2:n2 = vs.length:=HLN.out.2
      obtain ⟨b2,o2,rfl,hb2,hcl2⟩:=hx2 (by omega)
      obtain ⟨r0,r1⟩:=hcl2 i (by omega)
      generalize hz:vs.getD i (0,0) = z at r0 r1
      obtain ⟨z0,z1⟩:=z
      simp only at r0 r1
      have HZ:=hid' hz
      have f3:=HI.out.row.cell 3 (.slice (some ⟨b2,o2,none⟩) n2 c2)
      clear hx2 hcl2 hnw2 hz hj0
      go_wp2_with fail
      generalize wr.alloc (.cells #[.int .i64 y0,.int .i64 y1] 26) = W1 at HI hNr r0 r1 f3 ⊢
      obtain ⟨qn,hqn⟩:∃ q,q = wr.heap.size:=⟨_,rfl⟩
      rw [← hqn] at hNr ⊢
      clear kN hqn hbw
      refine (ctext_any z0 z1 _ (HC0.out.1.kept HI.out.kp) (HC0.out.2.1.kept HI.out.kp)).mono ?_
      rintro e w4 ⟨hkt,rfl⟩
      obtain ⟨tz,htz⟩:∃ t,t = bs (tx (z0,z1)):=⟨_,rfl⟩
      rw [← htz]
      have Htz:=hid' htz
      have HI:=hid' (HI.out.kept hkt)
      have hNr:=hNr.kept hkt
      clear htz hkt
      clear r0 r1 f3
      have KA:=(Kept.refl w4).alloc (.cells #[.string tz] 9)
      go_wp2_with (at_builtin; refine wpList_append_lies _ rfl (.tmp 28) (.tmp 36) 22 rfl (w.heap.size + 1) 9 i0 (.string ByteArray.empty) 1 16 X.und_strs hi hz0 hz1 hz2 rfl (by decide) u4 wk.length (strs wk) rfl (by exact (HI.out.kept KA).own) ⟨w4.heap.size,0,none⟩ 1 1 [.string tz] rfl rfl (X.cell_new w4 _ _) (fun u hu => by simp at hu; subst hu; rfl) (by omega) (by have:=HLW.out; unfold maxLen; omega) (by have:=HLW.out; omega) (by have:=HI.out.kp.size; have:=HI.out.row.lt; have:=HI.out.le; have:=HP.out; simp; omega) _ rfl ?_)
      intro g4 cap4 W4 own4 hg4 hgg _
      have hNr:=hNr.kept KA
      have hqo:u4.ownBlock ≠ some qn:=own_row (HI.out.kept KA).own hNr (by decide)
      have hNr:Q.Row2 26 W4 qn (.int .i64 y0) (.int .i64 y1):=World.rowIs.of_block hNr (hg4.block qn hNr.lt (fun e => hqo e.symm))
      have HI:=hid' (HI.out.add (news:=[tz.data.toList]) KA own4 rfl hg4)
      have n0:=hNr.c0
      have n1:=hNr.c1
      clear own4 hg4 hgg KA hqo
      have HLW:=hid' (show (wk ++ [tz.data.toList]).length≤200 by rw [List.length_append]; have:=HLW.out; simp only [List.length_cons,List.length_nil]; omega)
      go_wp2_with fail
      refine (ctext_any y0 y1 _ (HC0.out.1.kept HI.out.kp) (HC0.out.2.1.kept HI.out.kp)).mono ?_
      rintro e w5 ⟨hkt,rfl⟩
      obtain ⟨tv,htv⟩:∃ t,t = bs (tx (y0,y1)):=⟨_,rfl⟩
      rw [← htv]
      have Htv:=hid' htv
      have HI:=hid' (HI.out.kept hkt)
      have hNr:=hNr.kept hkt
      clear htv hkt
      clear hNr n0 n1
      have KA:=(Kept.refl w5).alloc (.cells #[.string tv] 9)
      go_wp2_with (at_builtin; refine wpList_append_lies _ rfl (.tmp 38) (.tmp 41) 22 rfl (w.heap.size + 1) 9 i0 (.string ByteArray.empty) 1 16 X.und_strs hi hz0 hz1 hz2 rfl (by decide) (.slice (some ⟨g4,0,none⟩) (wk.length + 1) cap4) (wk ++ [tz.data.toList]).length (strs (wk ++ [tz.data.toList])) rfl (by exact (HI.out.kept KA).own) ⟨w5.heap.size,0,none⟩ 1 1 [.string tv] rfl rfl (X.cell_new w5 _ _) (fun u hu => by simp at hu; subst hu; rfl) (by omega) (by have:=HLW.out; unfold maxLen; omega) (by have:=HLW.out; omega) (by have:=HI.out.kp.size; have:=HI.out.row.lt; have:=HI.out.le; have:=HP.out; simp; omega) _ rfl ?_)
      intro g5 cap5 W5 own4 hg4 hgg _
      have HI:=hid' (HI.out.add (news:=[tv.data.toList]) KA own4 (by simp) hg4)
      clear own4 hg4 hgg KA
      go_wp2_with fail
      go_roundw
      case rel =>
       refine ⟨i + 1 + 1,by omega,by go_num,?_⟩
       rw [mw,HY.out,← bs_list (tx (y0,y1)),← Htv.out,if_neg (by omega),show i + 1 - 1 = i from rfl,HZ.out,← bs_list (tx (z0,z1)),← Htz.out,← List.append_assoc,← List.append_assoc,← HWK.out]
       exact HI.out
      case measure => show n - ((i:Int) + 1 + 1).toNat < n - ((i:Int) + 1).toNat; omega
    ·
     have hji:¬ (j:Int) < (n:Int):=by omega
     obtain rfl:j = n:=by omega
     have HMW:=hid' (show mwords ⟨s.data.toList,k,gs,vs⟩ = [[46,109,111,100,101,108],s.data.toList,[k.toNat.toUInt8]] ++ mw gs vs j by unfold mwords; rw [← HLN.out.1])
     go_wp2_with fail
     go_ret2
     exact ⟨HI.out.kp,.inr ⟨HOK.out.1,_,rfl,by rw [HMW.out]; exact own_mono HI.out.own (Nat.le_succ _)⟩⟩
end V
end Go.Proofs.YtfddbkhfokeioaaGreatDoor

namespace Go.Proofs.YtfddbkhfokeioaaGreatDoor
open Go.RowKit
namespace V
open Q (parseOf okN textOf)
theorem tx_back {p:Int × Int} (h:okN p.1 p.2 = true):parseOf (tx p) = (p.1,p.2,0):=by
 unfold tx
 rw [if_pos h]
 exact (Q.back h).1
theorem allN_at {l:List (Int × Int)} (h:allN l = true):∀ p ∈ l,okN p.1 p.2 = true:=by
 intro p hp
 unfold allN at h
 have h1:l.any (fun q => !okN q.1 q.2) = false:=by simpa using h
 rw [List.any_eq_false] at h1
 have:=h1 p hp
 simpa using this
theorem readM_ok {ws:List (List UInt8)} {m:Md} (h:readM ws = .ok m):okM m.name m.kind m.gs m.vs = true:=by
 unfold readM at h
 split at h
 ·
  cases h
 ·
  split at h
  ·
   cases h
  ·
   split at h
   ·
    rename_i ho; cases h; exact ho
   ·
    cases h
theorem model_end {nm:List UInt8} {kb:UInt8} {gs vs nums:List (Int × Int)} (h:okM nm (kb.toNat:Int) gs vs = true) (hp:partsOf (mwords ⟨nm,(kb.toNat:Int),gs,vs⟩) (mshape (mwords ⟨nm,(kb.toNat:Int),gs,vs⟩)) = .ok ⟨[],nm,nums,[]⟩)
  (hl:¬ ((mwords ⟨nm,(kb.toNat:Int),gs,vs⟩).length < 4 ∨ (mwords ⟨nm,(kb.toNat:Int),gs,vs⟩).getD 0 [] ≠ [46,109,111,100,101,108])) (h2:((mwords ⟨nm,(kb.toNat:Int),gs,vs⟩).getD 2 []).getD 0 0 = kb) (hg:gvAll 0 [] [] nums = (gs,vs)):readM (mwords ⟨nm,(kb.toNat:Int),gs,vs⟩) = .ok ⟨nm,(kb.toNat:Int),gs,vs⟩:=by
 rw [readM_yes hl,hp,h2]
 show endM (modelS (kb.toNat:Int) ⟨[],nm,nums,[]⟩) = _
 unfold endM modelS
 simp only [hg]
 rw [if_pos h]
set_option maxHeartbeats 4000000 in
theorem model_back (m:Md) (h:okM m.name m.kind m.gs m.vs = true):readM (mwords m) = .ok m:=by
 obtain ⟨nm,kd,gs,vs⟩:=m
 simp only at h
 have hk:=okM_kind h
 have hu:=h
 unfold okM at hu
 simp only [Bool.and_eq_true] at hu
 obtain ⟨⟨⟨⟨hn,hf⟩,hg⟩,hv⟩,hr⟩:=hu
 have hG:=allN_at hg
 have hV:=allN_at hv
 have key:∀ kb:UInt8,(kb = 100 ∨ (kb = 115∧gs.length = 2))→kd = (kb.toNat:Int)→readM (mwords ⟨nm,kd,gs,vs⟩) = .ok ⟨nm,kd,gs,vs⟩:=by
  intro kb hkb hkd
  subst hkd
  match gs,vs,hk.2.1,hk.2.2.1,hkb with
  | [g0],[],_,_,hkb =>
   have bg0:=tx_back (hG g0 (by simp))
   rcases hkb with rfl | ⟨rfl,hl⟩
   ·
    refine model_end h (nums:=[g0]) ?_ (by simp [mwords,mw]) (by simp [mwords]) (by simp [gvAll])
    simp [mwords,mw,mshape,partsOf,nmAll,nmStep,nuAll,nuStep,Lib.repeatL,hn,Pt.zero,bg0]
   ·
    simp at hl
  | [g0,g1],[v0],_,_,hkb =>
   have bg0:=tx_back (hG g0 (by simp))
   have bg1:=tx_back (hG g1 (by simp))
   have bv0:=tx_back (hV v0 (by simp))
   rcases hkb with rfl | ⟨rfl,hl⟩
   ·
    refine model_end h (nums:=[g0,v0,g1]) ?_ (by simp [mwords,mw]) (by simp [mwords]) (by simp [gvAll])
    simp [mwords,mw,mshape,partsOf,nmAll,nmStep,nuAll,nuStep,Lib.repeatL,hn,Pt.zero,bg0,bg1,bv0]
   ·
    refine model_end h (nums:=[g0,v0,g1]) ?_ (by simp [mwords,mw]) (by simp [mwords]) (by simp [gvAll])
    simp [mwords,mw,mshape,partsOf,nmAll,nmStep,nuAll,nuStep,hn,Pt.zero,bg0,bg1,bv0]
  | [g0,g1,g2],[v0,v1],_,_,hkb =>
   have bg0:=tx_back (hG g0 (by simp))
   have bg1:=tx_back (hG g1 (by simp))
   have bg2:=tx_back (hG g2 (by simp))
   have bv0:=tx_back (hV v0 (by simp))
   have bv1:=tx_back (hV v1 (by simp))
   rcases hkb with rfl | ⟨rfl,hl⟩
   ·
    refine model_end h (nums:=[g0,v0,g1,v1,g2]) ?_ (by simp [mwords,mw]) (by simp [mwords]) (by simp [gvAll])
    simp [mwords,mw,mshape,partsOf,nmAll,nmStep,nuAll,nuStep,Lib.repeatL,hn,Pt.zero,bg0,bg1,bg2,bv0,bv1]
   ·
    simp at hl
  | [g0,g1,g2,g3],[v0,v1,v2],_,_,hkb =>
   have bg0:=tx_back (hG g0 (by simp))
   have bg1:=tx_back (hG g1 (by simp))
   have bg2:=tx_back (hG g2 (by simp))
   have bg3:=tx_back (hG g3 (by simp))
   have bv0:=tx_back (hV v0 (by simp))
   have bv1:=tx_back (hV v1 (by simp))
   have bv2:=tx_back (hV v2 (by simp))
   rcases hkb with rfl | ⟨rfl,hl⟩
   ·
    refine model_end h (nums:=[g0,v0,g1,v1,g2,v2,g3]) ?_ (by simp [mwords,mw]) (by simp [mwords]) (by simp [gvAll])
    simp [mwords,mw,mshape,partsOf,nmAll,nmStep,nuAll,nuStep,Lib.repeatL,hn,Pt.zero,bg0,bg1,bg2,bg3,bv0,bv1,bv2]
   ·
    simp at hl
 rcases hk.1 with e | e
 ·
  exact key 100 (.inl rfl) e
 ·
  refine key 115 (.inr ⟨rfl,?_⟩) e
  unfold fitsM at hf
  rw [if_neg (by omega),if_pos e] at hf
  exact (of_decide_eq_true hf).1
end V
end Go.Proofs.YtfddbkhfokeioaaGreatDoor

namespace Go.Proofs.YtfddbkhfokeioaaGreatDoor
open Go.RowKit
namespace V
open Q (hid' parseOf Lett ErrV Tab okN textOf)
open X (bs OwnS RS strs bs_list bs_size)
def WrIs (B:Nat) (w:World) (e:Ending):Option (List (List UInt8))→Prop
 | none => e = .returned (.tuple #[.slice none 0 0,.int .i64 70])
 | some ws => ∃ u,e = .returned (.tuple #[u,.int .i64 0])∧OwnS B w u ws
def writeB (c:Cd) (ws:List (List UInt8)):Except Int Cd→Option (List (List UInt8))
 | .ok d => if d = c then some ws else none
 | .error _ => none
theorem writeC_dev {c:Cd} (h:devB c.name = true):writeC c = writeB c (cwords c) (readC (cwords c)):=by
 unfold writeC
 rw [if_pos h]
 cases readC (cwords c) <;> rfl
theorem len_max {B:Nat} {w:World} {e:TypeId} {sz n:Nat} {v:Value} {xs:List Value} (h:w.ownsRow B e sz v n xs):n≤9223372036854775807:=by
 obtain ⟨_,⟨_,h3⟩ | ⟨g,cap,cur,h2,_,_,hn,hm,_⟩⟩:=h
 ·
  omega
 ·
  exact Nat.le_trans hn hm
theorem own_cap {B:Nat} {w:World} {v:Value} {ws:List (List UInt8)} (h:OwnS B w v ws):∃ ao cap,v = .slice ao ws.length cap∧ws.length≤cap∧cap≤9223372036854775807:=by
 obtain ⟨_,⟨h2,h3⟩ | ⟨g,cap,cur,h2,_,_,hn,hm,_⟩⟩:=h
 ·
  exact ⟨none,0,by rw [h2,h3],by omega,by omega⟩
 ·
  exact ⟨_,_,h2,hn,hm⟩
set_option maxRecDepth 100000 in
set_option maxHeartbeats 8000000 in
theorem write_plain (a1 a2 a3:Option Addr) (n1 k1 n2 k2 n3 k3:Nat) (c:Cd) (w:World) (hL:Lett w) (hE:ErrV w) (hT:Tab w) (hc:CdR w a1 n1 k1 a2 n2 k2 a3 n3 k3 c) (hl:(n1 + 1000) * 16≤140737488355328) (hw:waveC (c.name.getD 0 0) = false) (hs:∀ x ∈ cwords c,x.length≤9223372036854775807) (hsn:c.name.length≤9223372036854775807) :
  Calls Tryz.prog 22 #[cdV c (.slice a1 n1 k1) (.slice a2 n2 k2) (.slice a3 n3 k3)] w fun e w' => Kept w w'∧WrIs w.heap.size w' e (writeC c):=by
 have HC:=hid' (And.intro hc (And.intro hL (And.intro hT (And.intro hE (And.intro hw hs)))))
 obtain ⟨r,hr⟩:∃ r,r = writeC c:=⟨_,rfl⟩
 rw [← hr]
 have HR:=hid' hr
 have hdev:=fun V => cdev_any (bs c.name) V (by rw [bs_size]; exact hsn)
 rw [bs_list] at hdev
 have hcw:=fun V (K:Kept w V) (hh:0 < c.name.length) => cardWords_plain a1 a2 a3 n1 k1 n2 k2 n3 k3 c V (hL.kept K) (hT.kept K) (hc.kept K) hh hl hw
 clear hr hc hL hE hT hw hs hsn
 obtain ⟨cn,cnd,cr,⟨cm,cx⟩,ckd,cvs,css⟩:=c
 unfold cdV at hcw ⊢
 simp only at hdev hcw ⊢
 obtain ⟨s1,hs1⟩:∃ s,s = bs cn:=⟨_,rfl⟩
 obtain ⟨s3,hs3⟩:∃ s,s = bs cr:=⟨_,rfl⟩
 rw [← hs1,← hs3] at hcw ⊢
 rw [← hs1] at hdev
 have HE:=hid' (And.intro hs1 hs3)
 clear hs1 hs3
 cases hd:devB cn
 ·
  rw [hd] at hdev
  have HF:=hid' (show r = none by rw [HR.out]; unfold writeC; rw [if_neg (by rw [hd]; decide)])
  clear hcw
  go_enter Tryz.func22,Tryz.ntmps22
  go_wp2_with fail
  refine (hdev _).mono ?_
  rintro e w1 ⟨rfl,rfl⟩
  go_wp2_with fail
  go_ret2
  exact ⟨(Kept.refl _).alloc _,by rw [HF.out]; rfl⟩
 ·
  rw [hd] at hdev
  have hh:0 < cn.length:=by
   have h1:=dev_pos (s:=bs cn) (by rw [bs_list]; exact hd)
   rwa [bs_size] at h1
  have HD:=hid' hd
  have hcw2:=fun V (K:Kept w V) => hcw V K hh
  clear hcw hd hh
  go_enter Tryz.func22,Tryz.ntmps22
  go_wp2_with fail
  refine (hdev _).mono ?_
  rintro e w1 ⟨rfl,rfl⟩
  go_wp2_with fail
  have hK:=(Kept.refl w).alloc (.cells #[.string s1,.slice a1 n1 k1,.string s3,.int .i64 cm,.int .i64 cx,.int .i64 ckd,.slice a2 n2 k2,.slice a3 n3 k3] 32)
  have hA:=RowL.alloc 32 w [.string s1,.slice a1 n1 k1,.string s3,.int .i64 cm,.int .i64 cx,.int .i64 ckd,.slice a2 n2 k2,.slice a3 n3 k3]
  generalize w.alloc (.cells #[.string s1,.slice a1 n1 k1,.string s3,.int .i64 cm,.int .i64 cx,.int .i64 ckd,.slice a2 n2 k2,.slice a3 n3 k3] 32) = W0 at hK hA ⊢
  obtain ⟨p,hp⟩:∃ q,q = w.heap.size:=⟨_,rfl⟩
  rw [← hp] at hA ⊢
  clear hp
  refine (hcw2 _ hK).mono ?_
  rintro e w2 ⟨hk2,u,rfl,ou⟩
  obtain ⟨ao,cap,rfl,hcap,hcap2⟩:=own_cap ou
  have HW:=hid' (And.intro (hK.trans hk2) (And.intro (hA.kept hk2) (And.intro (own_mono ou hK.size) ou)))
  have hrd:=readC_any ao (cwords ⟨cn,cnd,cr,(cm,cx),ckd,cvs,css⟩).length cap (cwords ⟨cn,cnd,cr,(cm,cx),ckd,cvs,css⟩) w2 (HC.out.2.1.kept HW.out.1) (HC.out.2.2.2.1.kept HW.out.1) (X.OwnS.rs ou) hcap hcap2 HC.out.2.2.2.2.2
  have HR2:=hid' (show r = writeB ⟨cn,cnd,cr,(cm,cx),ckd,cvs,css⟩ (cwords ⟨cn,cnd,cr,(cm,cx),ckd,cvs,css⟩) (readC (cwords ⟨cn,cnd,cr,(cm,cx),ckd,cvs,css⟩)) from HR.out.trans (writeC_dev HD.out))
  generalize hws:cwords ⟨cn,cnd,cr,(cm,cx),ckd,cvs,css⟩ = ws at hrd HW HR2 ⊢
  obtain ⟨n,hn⟩:∃ n,n = ws.length:=⟨_,rfl⟩
  rw [← hn] at hrd HW ⊢
  have HNN:=hid' hn
  generalize hrc:readC ws = rc at hrd HR2
  clear hK hA hk2 ou hcw2 hdev hws hn hcap hcap2 hrc
  go_wp2_with fail
  refine hrd.mono ?_
  rintro e w3 ⟨hk3,hres⟩
  clear hrd
  have HW:=hid' (And.intro (HW.out.1.trans hk3) (And.intro (HW.out.2.1.kept hk3) (own_kept HW.out.2.2.1 (fun b hb => hk3.block b (HW.out.2.2.1.lt b hb).2))))
  clear hk3
  cases rc with
  | error x =>
   obtain ⟨rfl,hx0⟩:=hres
   have hx0':(x == 0) = false:=by simpa using hx0
   unfold zeroCd
   have HF:=hid' (show r = none from HR2.out)
   go_wp2_with fail
   go_ret2
   exact ⟨HW.out.1.alloc _,by rw [HF.out]; rfl⟩
  | ok d =>
   obtain ⟨v,rfl,nv,xv,sv,rfl,o1,o2,o3⟩:=hres
   obtain ⟨b1,l1,rfl⟩:=own_shape o1
   obtain ⟨b2,l2,rfl⟩:=own_shape o2
   obtain ⟨b3,l3,rfl⟩:=own_shape o3
   have hsm:=fun V (K:Kept w3 V) => csame_any b1 b2 b3 a1 a2 a3 d.nodes.length l1 d.vals.length l2 d.steps.length l3 n1 k1 n2 k2 n3 k3 d ⟨cn,cnd,cr,(cm,cx),ckd,cvs,css⟩ V ⟨(X.OwnS.rs o1).kept K,(OwnN.nsl o2).kept K,(OwnI.isl o3).kept K⟩ (HC.out.1.kept (HW.out.1.trans K)) (len_max o1) (len_max o2) (len_max o3)
   have HR3:=hid' (show r = if d = ⟨cn,cnd,cr,(cm,cx),ckd,cvs,css⟩ then some ws else none from HR2.out)
   generalize hdc:decide (d = ⟨cn,cnd,cr,(cm,cx),ckd,cvs,css⟩) = bb at hsm
   have HDC:=hid' hdc
   clear hdc o1 o2 o3
   obtain ⟨dn,dnd,dr,⟨dm,dx⟩,dkd,dvs,dss⟩:=d
   unfold cdV at hsm ⊢
   simp only at hsm ⊢
   rw [← HE.out.1,← HE.out.2] at hsm
   generalize bs dn = t1 at hsm ⊢
   generalize bs dr = t3 at hsm ⊢
   generalize dnd.length = d1 at hsm ⊢
   generalize dvs.length = d2 at hsm ⊢
   generalize dss.length = d3 at hsm ⊢
   have kB:=(Kept.refl w3).alloc (.cells #[.string t1,.slice b1 d1 l1,.string t3,.int .i64 dm,.int .i64 dx,.int .i64 dkd,.slice b2 d2 l2,.slice b3 d3 l3] 32)
   have hA:=HW.out.2.1.kept kB
   have g0:=hA.cell 0 (.string s1)
   have g1:=hA.cell 1 (.slice a1 n1 k1)
   have g2:=hA.cell 2 (.string s3)
   have g3:=hA.cell 3 (.int .i64 cm)
   have g4:=hA.cell 4 (.int .i64 cx)
   have g5:=hA.cell 5 (.int .i64 ckd)
   have g6:=hA.cell 6 (.slice a2 n2 k2)
   have g7:=hA.cell 7 (.slice a3 n3 k3)
   clear hA
   cases bb
   ·
    have HF:=hid' (show r = none by rw [HR3.out,if_neg (of_decide_eq_false HDC.out)])
    go_wp2_with fail
    refine (hsm _ kB).mono ?_
    rintro e w4 ⟨hk4,rfl⟩
    have HK:=hid' (HW.out.1.trans (kB.trans hk4))
    clear hsm kB hk4 g0 g1 g2 g3 g4 g5 g6 g7
    go_wp2_with fail
    go_ret2
    exact ⟨HK.out,by rw [HF.out]; rfl⟩
   ·
    have HF:=hid' (show r = some ws by rw [HR3.out,if_pos (of_decide_eq_true HDC.out)])
    go_wp2_with fail
    refine (hsm _ kB).mono ?_
    rintro e w4 ⟨hk4,rfl⟩
    have HK:=hid' (And.intro (HW.out.1.trans (kB.trans hk4)) (own_kept HW.out.2.2 (fun b hb => (kB.trans hk4).block b (HW.out.2.2.lt b hb).2)))
    clear hsm kB hk4 g0 g1 g2 g3 g4 g5 g6 g7
    go_wp2_with fail
    go_ret2
    exact ⟨HK.out.1,by rw [HF.out]; exact ⟨_,rfl,by unfold OwnS; rw [← HNN.out]; exact HK.out.2⟩⟩
end V
end Go.Proofs.YtfddbkhfokeioaaGreatDoor

namespace Go.Proofs.YtfddbkhfokeioaaGreatDoor
open Go.RowKit
namespace V
open Q (hid' parseOf Lett ErrV Tab okN textOf)
open X (bs OwnS RS strs bs_list bs_size)
theorem rs_lit (w:World) (ws:List (List UInt8)) (n:Nat) (hn:n = ws.length):RS (w.alloc (.cells (strs ws).toArray 9)) (.slice (some ⟨w.heap.size,0,none⟩) n n) ws:=by
 subst hn
 refine ⟨_,_,rfl,fun _ => ⟨w.heap.size,0,rfl,by simp,fun j hj => ?_⟩⟩
 have hr:=World.rowIs_alloc w (strs ws).toArray 9 (fun i => .string (bs (ws.getD i []))) (fun i hi => by
  have hi':i < ws.length:=by simpa [strs] using hi
  have:=X.strs_at ws i hi'
  simpa using this)
 rw [Nat.zero_add]
 exact hr.cell (by simpa [strs] using hj)
def awW:List (List UInt8):=[[114,49],[97],[48],[52,46,55,107]]
def awC:Cd:=⟨[114,49],[[97],[48]],[],(47,2),0,[],[]⟩
def awT:List (List UInt8):=[[114,49],[97],[48],[52,55,48,48]]
def awM:List (List UInt8):=[[46,109,111,100,101,108],[100,49],[100],[49,117],[48,46,55],[49,48,48,109]]
def awD:Md:=⟨[100,49],100,[(1,-6),(1,-1)],[(7,-1)]⟩
theorem aw1:readC awW = .ok awC:=by kernel_rfl
theorem aw2:writeC awC = some awT:=by kernel_rfl
theorem aw3:readM awM = .ok awD:=by kernel_rfl
theorem aw4:cwords awC = awT:=by kernel_rfl
set_option maxRecDepth 100000 in
set_option maxHeartbeats 8000000 in
theorem awake7_any (w:World) (hL:Lett w) (hE:ErrV w) (hT:Tab w):Calls Tryz.prog 9 #[] w fun e w' => Kept w w'∧e = .returned (.bool true):=by
 have HG:=hid' (And.intro hL (And.intro hE hT))
 clear hL hE hT
 go_enter Tryz.func9,Tryz.ntmps9
 go_wp2_with fail
 have hk0:=(Kept.refl w).alloc (.cells (strs awW).toArray 9)
 have hrs:=rs_lit w awW 4 rfl
 have hrd:=readC_any (some ⟨w.heap.size,0,none⟩) 4 4 awW _ (HG.out.1.kept hk0) (HG.out.2.1.kept hk0) hrs (Nat.le_refl _) (by omega) (by decide)
 rw [aw1] at hrd
 refine hrd.mono ?_
 rintro e w1 ⟨hk1,hres⟩
 obtain ⟨v,rfl,nv,xv,sv,rfl,o1,o2,o3⟩:=hres
 have HK:=hid' (hk0.trans hk1)
 clear hk0 hk1 hrs hrd
 obtain ⟨b1,l1,rfl⟩:=own_shape o1
 obtain ⟨b2,l2,rfl⟩:=own_shape o2
 obtain ⟨b3,l3,rfl⟩:=own_shape o3
 have HO:=hid' (show CdR w1 b1 2 l1 b2 0 l2 b3 0 l3 awC from ⟨X.OwnS.rs o1,OwnN.nsl o2,OwnI.isl o3⟩)
 clear o1 o2 o3
 have e1:cdV awC (.slice b1 awC.nodes.length l1) (.slice b2 awC.vals.length l2) (.slice b3 awC.steps.length l3) = .agg #[.string ⟨#[114,49]⟩,.slice b1 2 l1,.string ⟨#[]⟩,.int .i64 47,.int .i64 2,.int .i64 0,.slice b2 0 l2,.slice b3 0 l3]:=rfl
 rw [e1]
 clear e1
 go_wp2_with fail
 have hk2:=(Kept.refl w1).alloc (.cells #[.string ⟨#[114,49]⟩,.slice b1 2 l1,.string ⟨#[]⟩,.int .i64 47,.int .i64 2,.int .i64 0,.slice b2 0 l2,.slice b3 0 l3] 32)
 have hC:=RowL.alloc 32 w1 [.string ⟨#[114,49]⟩,.slice b1 2 l1,.string ⟨#[]⟩,.int .i64 47,.int .i64 2,.int .i64 0,.slice b2 0 l2,.slice b3 0 l3]
 have hwr:=write_plain b1 b2 b3 2 l1 0 l2 0 l3 awC _ (HG.out.1.kept (HK.out.trans hk2)) (HG.out.2.1.kept (HK.out.trans hk2)) (HG.out.2.2.kept (HK.out.trans hk2)) (HO.out.kept hk2) (by omega) (by decide) (by rw [aw4]; decide) (by decide)
 rw [aw2] at hwr
 have e2:cdV awC (.slice b1 2 l1) (.slice b2 0 l2) (.slice b3 0 l3) = .agg #[.string ⟨#[114,49]⟩,.slice b1 2 l1,.string ⟨#[]⟩,.int .i64 47,.int .i64 2,.int .i64 0,.slice b2 0 l2,.slice b3 0 l3]:=rfl
 rw [e2] at hwr
 generalize w1.alloc (.cells #[.string ⟨#[114,49]⟩,.slice b1 2 l1,.string ⟨#[]⟩,.int .i64 47,.int .i64 2,.int .i64 0,.slice b2 0 l2,.slice b3 0 l3] 32) = W1 at hk2 hC hwr ⊢
 obtain ⟨p,hp⟩:∃ q,q = w1.heap.size:=⟨_,rfl⟩
 rw [← hp] at hC ⊢
 refine hwr.mono ?_
 rintro e w2 ⟨hk3,u,rfl,ou⟩
 obtain ⟨ao,cap,rfl,_,_⟩:=own_cap ou
 have HW:=hid' (And.intro (HK.out.trans (hk2.trans hk3)) (And.intro (hC.kept hk3) (X.OwnS.rs ou)))
 clear hk2 hC hwr hk3 ou e2 hp HK
 go_wp2_with fail
 have hk0:=(Kept.refl w2).alloc (.cells (strs awM).toArray 9)
 have hrs:=rs_lit w2 awM 6 rfl
 have hrm:=readM_any (some ⟨w2.heap.size,0,none⟩) 6 6 awM _ (HG.out.1.kept (HW.out.1.trans hk0)) (HG.out.2.1.kept (HW.out.1.trans hk0)) hrs (by omega) (by decide)
 rw [aw3] at hrm
 refine hrm.mono ?_
 rintro e w3 ⟨hk4,v,rfl,gv,vv,rfl,o1,o2⟩
 obtain ⟨b4,l4,rfl⟩:=own_shape o1
 obtain ⟨b5,l5,rfl⟩:=own_shape o2
 have e3:(Value.agg #[.string (bs awD.name),.int .u8 awD.kind,.slice b4 awD.gs.length l4,.slice b5 awD.vs.length l5]) = .agg #[.string ⟨#[100,49]⟩,.int .u8 100,.slice b4 2 l4,.slice b5 1 l5]:=rfl
 rw [e3]
 have HW:=hid' (And.intro (HW.out.1.trans (hk0.trans hk4)) (And.intro (HW.out.2.1.kept (hk0.trans hk4)) (HW.out.2.2.kept (hk0.trans hk4))))
 have kM:=(Kept.refl w3).alloc (.cells #[.string ⟨#[100,49]⟩,.int .u8 100,.slice b4 2 l4,.slice b5 1 l5] 43)
 have hCm:=HW.out.2.1.kept kM
 have c3:=hCm.cell 3 (.int .i64 47)
 have c4:=hCm.cell 4 (.int .i64 2)
 clear hk0 hrs hrm hk4 o1 o2 e3 hCm
 go_wp2_with fail
 have hM:=Row4.alloc 43 w3 (.string ⟨#[100,49]⟩) (.int .u8 100) (.slice b4 2 l4) (.slice b5 1 l5)
 have hsz:(w3.alloc (.cells #[.string ⟨#[100,49]⟩,.int .u8 100,.slice b4 2 l4,.slice b5 1 l5] 43)).heap.size = w3.heap.size + 1:=by rw [World.size_alloc]
 generalize w3.alloc (.cells #[.string ⟨#[100,49]⟩,.int .u8 100,.slice b4 2 l4,.slice b5 1 l5] 43) = W4 at kM hM c3 c4 hsz ⊢
 rw [← hsz]
 obtain ⟨mb,hmb⟩:∃ q,q = w3.heap.size:=⟨_,rfl⟩
 rw [← hmb] at hM ⊢
 have hk5:=(Kept.refl W4).alloc (.cells (strs awT).toArray 9)
 have hrs:=rs_lit W4 awT 4 rfl
 have htx:=X.texts_any _ _ awT awT _ (HW.out.2.2.kept (kM.trans hk5)) hrs (by decide)
 rw [decide_eq_true (rfl:awT = awT)] at htx
 refine htx.mono ?_
 rintro e w4 ⟨hk6,rfl⟩
 have hM4:=hM.kept (hk5.trans hk6)
 have m1:=hM4.c1
 have m2:=hM4.c2
 have HK:=hid' (HW.out.1.trans (kM.trans (hk5.trans hk6)))
 clear kM hM hsz hmb hk5 hrs htx hk6 hM4 c3 c4
 go_wp2_with fail
 go_ret
 exact ⟨HK.out,rfl⟩
end V
end Go.Proofs.YtfddbkhfokeioaaGreatDoor

namespace Go.Proofs.YtfddbkhfokeioaaGreatDoor
open Go.RowKit
namespace V
open Q (hid' parseOf Lett ErrV Tab okN textOf)
open X (bs OwnS RS strs bs_list bs_size)
theorem nsl_nil (w:World):NSl w (.slice none 0 0) []:=⟨none,0,rfl,fun h => absurd h (by decide)⟩
theorem tx_sz (p:Int × Int):(tx p).length≤9223372036854775807:=by
 unfold tx
 split
 ·
  rename_i h; have:=(Q.back h).2; omega
 ·
  simp
theorem mw_sz (gs vs:List (Int × Int)):∀ k,∀ x ∈ mw gs vs k,x.length≤9223372036854775807
 | 0 => by simp [mw]
 | k + 1 => by
  intro x hx
  rw [mw] at hx
  rcases List.mem_append.1 hx with hx | hx
  ·
   rcases List.mem_append.1 hx with hx | hx
   ·
    exact mw_sz gs vs k x hx
   ·
    split at hx
    ·
     simp at hx
    ·
     rw [List.mem_singleton] at hx; subst hx; exact tx_sz _
  ·
   rw [List.mem_singleton] at hx; subst hx; exact tx_sz _
theorem mwords_sz {m:Md} (h:okM m.name m.kind m.gs m.vs = true):∀ x ∈ mwords m,x.length≤9223372036854775807:=by
 intro x hx
 unfold mwords at hx
 rcases List.mem_append.1 hx with hx | hx
 ·
  simp only [List.mem_cons,List.not_mem_nil,or_false] at hx
  rcases hx with rfl | rfl | rfl
  ·
   decide
  ·
   have:=(okM_kind h).2.2.2; omega
  ·
   simp
 ·
  exact mw_sz _ _ _ x hx
set_option maxRecDepth 100000 in
set_option maxHeartbeats 16000000 in
theorem mback7_any (s:ByteArray) (k:Int) (a1 a2:Option Addr) (n c n2 c2:Nat) (gs vs:List (Int × Int)) (ao:Option Addr) (nw cw:Nat) (ws:List (List UInt8)) (w:World) (hL:Lett w) (hE:ErrV w) (hT:Tab w) (hs:s.size≤9223372036854775807) (h1:NSl w (.slice a1 n c) gs) (h2:NSl w (.slice a2 n2 c2) vs) (hn:n≤4611686018427387903) (hm:n2≤4611686018427387903) (h3:RS w (.slice ao nw cw) ws) (hnw:nw≤9223372036854775807) (hws:∀ x ∈ ws,x.length≤9223372036854775807) :
  Calls Tryz.prog 7 #[.agg #[.string s,.int .u8 k,.slice a1 n c,.slice a2 n2 c2],.slice ao nw cw] w fun e w' => Kept w w'∧e = .returned (.bool true):=by
 have HG:=hid' (And.intro hL (And.intro hE (And.intro hT (And.intro h3 (And.intro hnw hws)))))
 have HM:=hid' (And.intro h1 h2)
 clear hL hE hT h1 h2 h3 hnw hws
 go_enter Tryz.func7,Tryz.ntmps7
 go_wp2_with fail
 have hK:=(Kept.refl w).alloc (.cells #[.string s,.int .u8 k,.slice a1 n c,.slice a2 n2 c2] 43)
 have hA:=RowL.alloc 43 w [.string s,.int .u8 k,.slice a1 n c,.slice a2 n2 c2]
 generalize w.alloc (.cells #[.string s,.int .u8 k,.slice a1 n c,.slice a2 n2 c2] 43) = W0 at hK hA ⊢
 obtain ⟨p,hp⟩:∃ q,q = w.heap.size:=⟨_,rfl⟩
 rw [← hp] at hA ⊢
 clear hp
 refine (awake7_any _ (HG.out.1.kept hK) (HG.out.2.1.kept hK) (HG.out.2.2.1.kept hK)).mono ?_
 rintro e w1 ⟨hk1,rfl⟩
 have HK:=hid' (hK.trans hk1)
 have HA:=hid' (hA.kept hk1)
 have f0:=HA.out.cell 0 (.string s)
 have f1:=HA.out.cell 1 (.int .u8 k)
 have f2:=HA.out.cell 2 (.slice a1 n c)
 have f3:=HA.out.cell 3 (.slice a2 n2 c2)
 clear hK hA hk1
 go_wp2_with fail
 refine (writeM_any s k a1 a2 n c n2 c2 gs vs _ (HG.out.1.kept HK.out) (HG.out.2.2.1.kept HK.out) hs (HM.out.1.kept HK.out) (HM.out.2.kept HK.out) hn hm).mono ?_
 rintro e w2 ⟨hk2,hwi⟩
 have HK2:=hid' (HK.out.trans hk2)
 have HA:=hid' (HA.out.kept hk2)
 clear f0 f1 f2 f3
 have f0:=HA.out.cell 0 (.string s)
 have f1:=HA.out.cell 1 (.int .u8 k)
 have f2:=HA.out.cell 2 (.slice a1 n c)
 have f3:=HA.out.cell 3 (.slice a2 n2 c2)
 have hva:=rvalidM_any s k a1 a2 n c n2 c2 gs vs w2 hs (HM.out.1.kept HK2.out) (HM.out.2.kept HK2.out) hn hm
 rcases hwi with ⟨hno,rfl⟩ | ⟨hok,u,rfl,ou⟩
 ·
  simp only at hno
  rw [hno] at hva
  clear hk2 HK
  go_wp2_with fail
  refine hva.mono ?_
  rintro e w3 ⟨hk3,rfl⟩
  have HK:=hid' (HK2.out.trans hk3)
  clear hk3 hva HK2 f0 f1 f2 f3 hno
  go_wp2_with fail
  have hrm:=readM_any ao nw cw ws _ (HG.out.1.kept HK.out) (HG.out.2.1.kept HK.out) (HG.out.2.2.2.1.kept HK.out) HG.out.2.2.2.2.1 HG.out.2.2.2.2.2
  cases hrr:readM ws with
  | error x =>
   rw [hrr] at hrm
   refine hrm.mono ?_
   rintro e wr ⟨hk1,rfl,hx0⟩
   have hx0':(x == 0) = false:=by simpa using hx0
   have HKr:=hid' (HK.out.trans hk1)
   clear hrm hk1
   go_wp2_with fail
   refine (same5_any ⟨#[]⟩ 0 none none none none 0 0 0 0 0 0 [] [] _ (nsl_nil _) (nsl_nil _) (nsl_nil _) (nsl_nil _) (by omega) (by omega)).mono ?_
   rintro e wz ⟨hk2,rfl⟩
   have HKz:=hid' ((HKr.out.alloc _).trans hk2)
   clear hk2
   go_wp2_with fail
   go_ret
   exact ⟨HKz.out,rfl⟩
  | ok m2 =>
   rw [hrr] at hrm
   have hok2:=readM_ok hrr
   have hbk2:=model_back m2 hok2
   refine hrm.mono ?_
   rintro e wr ⟨hk1,v,rfl,gv,vv,rfl,o1,o2⟩
   obtain ⟨rnm,rk,rg,rv⟩:=m2
   obtain ⟨x1,y1,rfl⟩:=own_shape o1
   obtain ⟨x2,y2,rfl⟩:=own_shape o2
   simp only at o1 o2 hok2 hbk2 ⊢
   have hkd:=okM_kind hok2
   obtain ⟨r0,hr0⟩:∃ t,t = bs rnm:=⟨_,rfl⟩
   rw [← hr0]
   have hrl:rnm = r0.data.toList:=by rw [hr0,bs_list]
   obtain ⟨rn,hrn⟩:∃ q,q = rg.length:=⟨_,rfl⟩
   obtain ⟨rm,hrmm⟩:∃ q,q = rv.length:=⟨_,rfl⟩
   rw [← hrn] at o1 ⊢
   rw [← hrmm] at o2 ⊢
   have hb1:rn≤4:=by omega
   have hb2:rm≤4:=by omega
   have hsz0:r0.size≤9223372036854775807:=by rw [hr0,bs_size]; omega
   rw [hrl] at hok2 hbk2
   have HRN:=hid' (And.intro hrn hrmm)
   have HKr:=hid' (HK.out.trans hk1)
   have HNS:=hid' (show NSl wr (.slice x1 rn y1) rg∧NSl wr (.slice x2 rm y2) rv by
    have h1:=OwnN.nsl (show OwnN w.heap.size wr (.slice x1 rn y1) rg from own_mono (by rw [hrn] at o1 ⊢; exact o1) HK.out.size)
    have h2:=OwnN.nsl (show OwnN w.heap.size wr (.slice x2 rm y2) rv from own_mono (by rw [hrmm] at o2 ⊢; exact o2) HK.out.size)
    exact ⟨h1,h2⟩)
   have HQ2:=hid' (And.intro hok2 hbk2)
   clear hrm hk1 o1 o2 hrr hok2 hbk2 hkd hrl hr0 hrn hrmm
   go_wp2_with fail
   have kR:=(Kept.refl wr).alloc (.cells #[.string r0,.int .u8 rk,.slice x1 rn y1,.slice x2 rm y2] 43)
   have hR:=RowL.alloc 43 wr [.string r0,.int .u8 rk,.slice x1 rn y1,.slice x2 rm y2]
   generalize wr.alloc (.cells #[.string r0,.int .u8 rk,.slice x1 rn y1,.slice x2 rm y2] 43) = WR at kR hR ⊢
   obtain ⟨pr,hpr⟩:∃ q,q = wr.heap.size:=⟨_,rfl⟩
   rw [← hpr] at hR ⊢
   have HKr:=hid' (HKr.out.trans kR)
   have HNS:=hid' (And.intro (HNS.out.1.kept kR) (HNS.out.2.kept kR))
   clear kR hpr
   have hwm:=writeM_any r0 rk x1 x2 rn y1 rm y2 rg rv _ (HG.out.1.kept HKr.out) (HG.out.2.2.1.kept HKr.out) hsz0 HNS.out.1 HNS.out.2 (by omega) (by omega)
   refine hwm.mono ?_
   rintro e wl ⟨hkl,hwi⟩
   rcases hwi with ⟨hno,_⟩ | ⟨_,u,rfl,ou⟩
   ·
    exact absurd (hno.symm.trans HQ2.out.1) (by decide)
   obtain ⟨ul,cl,rfl,hcl1,hcl2⟩:=own_cap ou
   have hR:=hR.kept hkl
   have HKl:=hid' (HKr.out.trans hkl)
   have HNS:=hid' (And.intro (HNS.out.1.kept hkl) (HNS.out.2.kept hkl))
   have hra:=readM_any ul (mwords ⟨r0.data.toList,rk,rg,rv⟩).length cl (mwords ⟨r0.data.toList,rk,rg,rv⟩) wl (HG.out.1.kept HKl.out) (HG.out.2.1.kept HKl.out) (X.OwnS.rs ou) (by omega) (mwords_sz HQ2.out.1)
   rw [HQ2.out.2] at hra
   clear hwm hkl ou
   generalize (mwords ⟨r0.data.toList,rk,rg,rv⟩).length = lw at hra ⊢
   go_wp2_with fail
   refine hra.mono ?_
   rintro e wa ⟨hka,v,rfl,gv,vv,rfl,o1,o2⟩
   obtain ⟨x3,y3,rfl⟩:=own_shape o1
   obtain ⟨x4,y4,rfl⟩:=own_shape o2
   have hl3:rg.length = rn:=HRN.out.1.symm
   have hl4:rv.length = rm:=HRN.out.2.symm
   simp only [X.bs_back,hl3,hl4]
   have n3:=OwnN.nsl o1
   have n4:=OwnN.nsl o2
   simp only [hl3,hl4] at n3 n4
   have kA:=(Kept.refl wa).alloc (.cells #[.string r0,.int .u8 rk,.slice x3 rn y3,.slice x4 rm y4] 43)
   have hR:=hR.kept (hka.trans kA)
   have g0:=hR.cell 0 (.string r0)
   have g1:=hR.cell 1 (.int .u8 rk)
   have g2:=hR.cell 2 (.slice x1 rn y1)
   have g3:=hR.cell 3 (.slice x2 rm y2)
   have hs5:=same5_any r0 rk x3 x4 x1 x2 rn y3 rm y4 y1 y2 rg rv _ (n3.kept kA) (n4.kept kA) (HNS.out.1.kept (hka.trans kA)) (HNS.out.2.kept (hka.trans kA)) (by omega) (by omega)
   have HKa:=hid' (HKl.out.trans (hka.trans kA))
   clear hra hka hR n3 n4 kA o1 o2 hl3 hl4
   go_wp2_with fail
   refine hs5.mono ?_
   rintro e wz ⟨hkz,rfl⟩
   have HKz:=hid' (HKa.out.trans hkz)
   clear hkz hs5 g0 g1 g2 g3
   go_wp2_with fail
   go_ret
   exact ⟨HKz.out,rfl⟩
 ·
  simp only at hok
  rw [hok] at hva
  have hbk:=model_back ⟨s.data.toList,k,gs,vs⟩ hok
  have hsz:=mwords_sz (m:=⟨s.data.toList,k,gs,vs⟩) hok
  obtain ⟨ul,cl,rfl,hcl1,hcl2⟩:=own_cap ou
  have hrs:=X.OwnS.rs ou
  have hgn:=HM.out.1.len
  have hvn:=HM.out.2.len
  obtain ⟨mwl,hmw⟩:∃ l,l = mwords ⟨s.data.toList,k,gs,vs⟩:=⟨_,rfl⟩
  rw [← hmw] at hbk hsz hrs hcl1 ⊢
  obtain ⟨lw,hlw⟩:∃ l,l = mwl.length:=⟨_,rfl⟩
  rw [← hlw] at hrs hcl1 ⊢
  have HGN:=hid' (And.intro hgn hvn)
  clear hk2 HK ou hmw hlw hgn hvn
  go_wp2_with fail
  refine hva.mono ?_
  rintro e w3 ⟨hk3,rfl⟩
  have HK3:=hid' (HK2.out.trans hk3)
  have HA:=hid' (HA.out.kept hk3)
  have hra:=readM_any ul lw cl mwl w3 (HG.out.1.kept HK3.out) (HG.out.2.1.kept HK3.out) (hrs.kept hk3) (by omega) hsz
  rw [hbk] at hra
  clear hk3 hva HK2 f0 f1 f2 f3 hok hbk hsz hrs
  go_wp2_with fail
  refine hra.mono ?_
  rintro e wb ⟨hkb,v,rfl,gv,vv,rfl,o1,o2⟩
  obtain ⟨x5,y5,rfl⟩:=own_shape o1
  obtain ⟨x6,y6,rfl⟩:=own_shape o2
  have n5:=OwnN.nsl o1
  have n6:=OwnN.nsl o2
  have hl5:gs.length = n:=HGN.out.1.symm
  have hl6:vs.length = n2:=HGN.out.2.symm
  simp only [X.bs_back,hl5,hl6] at n5 n6 ⊢
  have kB:=(Kept.refl wb).alloc (.cells #[.string s,.int .u8 k,.slice x5 n y5,.slice x6 n2 y6] 43)
  have hR:=HA.out.kept (hkb.trans kB)
  have f0:=hR.cell 0 (.string s)
  have f1:=hR.cell 1 (.int .u8 k)
  have f2:=hR.cell 2 (.slice a1 n c)
  have f3:=hR.cell 3 (.slice a2 n2 c2)
  have hs5:=same5_any s k a1 a2 x5 x6 n c n2 c2 y5 y6 gs vs _ (HM.out.1.kept (HK3.out.trans (hkb.trans kB))) (HM.out.2.kept (HK3.out.trans (hkb.trans kB))) (n5.kept kB) (n6.kept kB) hn hm
  have HKb:=hid' (HK3.out.trans (hkb.trans kB))
  clear hra hkb hR n5 n6 kB o1 o2 hl5 hl6
  go_wp2_with fail
  refine hs5.mono ?_
  rintro e wq ⟨hkq,rfl⟩
  have HK:=hid' (HKb.out.trans hkq)
  clear hkq hs5 f0 f1 f2 f3
  go_wp2_with fail
  have hrm:=readM_any ao nw cw ws _ (HG.out.1.kept HK.out) (HG.out.2.1.kept HK.out) (HG.out.2.2.2.1.kept HK.out) HG.out.2.2.2.2.1 HG.out.2.2.2.2.2
  cases hrr:readM ws with
  | error x =>
   rw [hrr] at hrm
   refine hrm.mono ?_
   rintro e wr ⟨hk1,rfl,hx0⟩
   have hx0':(x == 0) = false:=by simpa using hx0
   have HKr:=hid' (HK.out.trans hk1)
   clear hrm hk1
   go_wp2_with fail
   refine (same5_any ⟨#[]⟩ 0 none none none none 0 0 0 0 0 0 [] [] _ (nsl_nil _) (nsl_nil _) (nsl_nil _) (nsl_nil _) (by omega) (by omega)).mono ?_
   rintro e wz ⟨hk2,rfl⟩
   have HKz:=hid' ((HKr.out.alloc _).trans hk2)
   clear hk2
   go_wp2_with fail
   go_ret
   exact ⟨HKz.out,rfl⟩
  | ok m2 =>
   rw [hrr] at hrm
   have hok2:=readM_ok hrr
   have hbk2:=model_back m2 hok2
   refine hrm.mono ?_
   rintro e wr ⟨hk1,v,rfl,gv,vv,rfl,o1,o2⟩
   obtain ⟨rnm,rk,rg,rv⟩:=m2
   obtain ⟨x1,y1,rfl⟩:=own_shape o1
   obtain ⟨x2,y2,rfl⟩:=own_shape o2
   simp only at o1 o2 hok2 hbk2 ⊢
   have hkd:=okM_kind hok2
   obtain ⟨r0,hr0⟩:∃ t,t = bs rnm:=⟨_,rfl⟩
   rw [← hr0]
   have hrl:rnm = r0.data.toList:=by rw [hr0,bs_list]
   obtain ⟨rn,hrn⟩:∃ q,q = rg.length:=⟨_,rfl⟩
   obtain ⟨rm,hrmm⟩:∃ q,q = rv.length:=⟨_,rfl⟩
   rw [← hrn] at o1 ⊢
   rw [← hrmm] at o2 ⊢
   have hb1:rn≤4:=by omega
   have hb2:rm≤4:=by omega
   have hsz0:r0.size≤9223372036854775807:=by rw [hr0,bs_size]; omega
   rw [hrl] at hok2 hbk2
   have HRN:=hid' (And.intro hrn hrmm)
   have HKr:=hid' (HK.out.trans hk1)
   have HNS:=hid' (show NSl wr (.slice x1 rn y1) rg∧NSl wr (.slice x2 rm y2) rv by
    have h1:=OwnN.nsl (show OwnN w.heap.size wr (.slice x1 rn y1) rg from own_mono (by rw [hrn] at o1 ⊢; exact o1) HK.out.size)
    have h2:=OwnN.nsl (show OwnN w.heap.size wr (.slice x2 rm y2) rv from own_mono (by rw [hrmm] at o2 ⊢; exact o2) HK.out.size)
    exact ⟨h1,h2⟩)
   have HQ2:=hid' (And.intro hok2 hbk2)
   clear hrm hk1 o1 o2 hrr hok2 hbk2 hkd hrl hr0 hrn hrmm
   go_wp2_with fail
   have kR:=(Kept.refl wr).alloc (.cells #[.string r0,.int .u8 rk,.slice x1 rn y1,.slice x2 rm y2] 43)
   have hR:=RowL.alloc 43 wr [.string r0,.int .u8 rk,.slice x1 rn y1,.slice x2 rm y2]
   generalize wr.alloc (.cells #[.string r0,.int .u8 rk,.slice x1 rn y1,.slice x2 rm y2] 43) = WR at kR hR ⊢
   obtain ⟨pr,hpr⟩:∃ q,q = wr.heap.size:=⟨_,rfl⟩
   rw [← hpr] at hR ⊢
   have HKr:=hid' (HKr.out.trans kR)
   have HNS:=hid' (And.intro (HNS.out.1.kept kR) (HNS.out.2.kept kR))
   clear kR hpr
   have hwm:=writeM_any r0 rk x1 x2 rn y1 rm y2 rg rv _ (HG.out.1.kept HKr.out) (HG.out.2.2.1.kept HKr.out) hsz0 HNS.out.1 HNS.out.2 (by omega) (by omega)
   refine hwm.mono ?_
   rintro e wl ⟨hkl,hwi⟩
   rcases hwi with ⟨hno,_⟩ | ⟨_,u,rfl,ou⟩
   ·
    exact absurd (hno.symm.trans HQ2.out.1) (by decide)
   obtain ⟨ul,cl,rfl,hcl1,hcl2⟩:=own_cap ou
   have hR:=hR.kept hkl
   have HKl:=hid' (HKr.out.trans hkl)
   have HNS:=hid' (And.intro (HNS.out.1.kept hkl) (HNS.out.2.kept hkl))
   have hra:=readM_any ul (mwords ⟨r0.data.toList,rk,rg,rv⟩).length cl (mwords ⟨r0.data.toList,rk,rg,rv⟩) wl (HG.out.1.kept HKl.out) (HG.out.2.1.kept HKl.out) (X.OwnS.rs ou) (by omega) (mwords_sz HQ2.out.1)
   rw [HQ2.out.2] at hra
   clear hwm hkl ou
   generalize (mwords ⟨r0.data.toList,rk,rg,rv⟩).length = lw at hra ⊢
   go_wp2_with fail
   refine hra.mono ?_
   rintro e wa ⟨hka,v,rfl,gv,vv,rfl,o1,o2⟩
   obtain ⟨x3,y3,rfl⟩:=own_shape o1
   obtain ⟨x4,y4,rfl⟩:=own_shape o2
   have hl3:rg.length = rn:=HRN.out.1.symm
   have hl4:rv.length = rm:=HRN.out.2.symm
   simp only [X.bs_back,hl3,hl4]
   have n3:=OwnN.nsl o1
   have n4:=OwnN.nsl o2
   simp only [hl3,hl4] at n3 n4
   have kA:=(Kept.refl wa).alloc (.cells #[.string r0,.int .u8 rk,.slice x3 rn y3,.slice x4 rm y4] 43)
   have hR:=hR.kept (hka.trans kA)
   have g0:=hR.cell 0 (.string r0)
   have g1:=hR.cell 1 (.int .u8 rk)
   have g2:=hR.cell 2 (.slice x1 rn y1)
   have g3:=hR.cell 3 (.slice x2 rm y2)
   have hs5:=same5_any r0 rk x3 x4 x1 x2 rn y3 rm y4 y1 y2 rg rv _ (n3.kept kA) (n4.kept kA) (HNS.out.1.kept (hka.trans kA)) (HNS.out.2.kept (hka.trans kA)) (by omega) (by omega)
   have HKa:=hid' (HKl.out.trans (hka.trans kA))
   clear hra hka hR n3 n4 kA o1 o2 hl3 hl4
   go_wp2_with fail
   refine hs5.mono ?_
   rintro e wz ⟨hkz,rfl⟩
   have HKz:=hid' (HKa.out.trans hkz)
   clear hkz hs5 g0 g1 g2 g3
   go_wp2_with fail
   go_ret
   exact ⟨HKz.out,rfl⟩
end V
end Go.Proofs.YtfddbkhfokeioaaGreatDoor
