/- card.same. card.cardWords. card.WriteModel. shuntlaw07's lent and whole. A model written is read as itself: mathematics. card.Write of cards without a wave. shuntlaw07.awake. CardModelBack's walk. A card that came in as an argument: what its reading gives the walks; how long its lists may be. -/
import Derived.Test.YtembglnonhlnkaaGreatDoorGbb
import Derived.Test.YtembglnonhlnkaaGreatDoorGbc
import Derived.Test.YtembglnonhlnkaaGreatDoorGag
import Derived.Laws.OwnMore
import Derived.Test.YtembglnonhlnkaaGreatDoorGba
import Derived.Test.YtembglnonhlnkaaGreatDoorGao
import Derived.Lib.SmallJoins
namespace Go.Proofs.YtembglnonhlnkaaGreatDoor
open Go.RowKit
namespace V
open Q (hid' parseOf Lett ErrV Tab okN textOf)
open X (bs OwnS RS strs bs_list bs_size)
structure CdR (w:World) (a1:Option Addr) (n1 k1:Nat) (a2:Option Addr) (n2 k2:Nat) (a3:Option Addr) (n3 k3:Nat) (c:Cd):Prop where
 nodes:RS w (.slice a1 n1 k1) c.nodes
 vals:NSl w (.slice a2 n2 k2) c.vals
 steps:ISl w (.slice a3 n3 k3) c.steps
theorem CdR.kept {w w':World} {a1 a2 a3:Option Addr} {n1 k1 n2 k2 n3 k3:Nat} {c:Cd} (h:CdR w a1 n1 k1 a2 n2 k2 a3 n3 k3 c) (k:Kept w w'):CdR w' a1 n1 k1 a2 n2 k2 a3 n3 k3 c:=⟨h.nodes.kept k,h.vals.kept k,h.steps.kept k⟩
def cdC (c:Cd) (nv xv sv:Value):List Value:=[.string (bs c.name),nv,.string (bs c.ref),.int .i64 c.val.1,.int .i64 c.val.2,.int .i64 c.kind,xv,sv]
set_option maxRecDepth 100000 in
set_option maxHeartbeats 8000000 in
theorem csame_any (a1 a2 a3 b1 b2 b3:Option Addr) (n1 k1 n2 k2 n3 k3 m1 l1 m2 l2 m3 l3:Nat) (c d:Cd) (w:World) (hc:CdR w a1 n1 k1 a2 n2 k2 a3 n3 k3 c) (hd:CdR w b1 m1 l1 b2 m2 l2 b3 m3 l3 d) (h1:n1≤9223372036854775807) (h2:n2≤9223372036854775807) (h3:n3≤9223372036854775807) :
  Calls Tryz.prog 48 #[cdV c (.slice a1 n1 k1) (.slice a2 n2 k2) (.slice a3 n3 k3),cdV d (.slice b1 m1 l1) (.slice b2 m2 l2) (.slice b3 m3 l3)] w fun e w' => Kept w w'∧e = .returned (.bool (decide (c = d))):=by
 obtain ⟨cn,cnd,cr,⟨cm,cx⟩,ckd,cvs,css⟩:=c
 obtain ⟨dn,dnd,dr,⟨dm,dx⟩,dkd,dvs,dss⟩:=d
 unfold cdV
 simp only
 have HC:=hid' (And.intro hc hd)
 have e1:(bs cn).toList = cn:=by rw [ByteArray.toList_eq,bs_list]
 have e2:(bs dn).toList = dn:=by rw [ByteArray.toList_eq,bs_list]
 have e3:(bs cr).toList = cr:=by rw [ByteArray.toList_eq,bs_list]
 have e4:(bs dr).toList = dr:=by rw [ByteArray.toList_eq,bs_list]
 generalize bs cn = s1 at e1 ⊢
 generalize bs dn = s2 at e2 ⊢
 generalize bs cr = s3 at e3 ⊢
 generalize bs dr = s4 at e4 ⊢
 have HE:=hid' (And.intro e1 (And.intro e2 (And.intro e3 e4)))
 obtain ⟨r,hr⟩:∃ r,r = decide ((⟨cn,cnd,cr,(cm,cx),ckd,cvs,css⟩:Cd) = ⟨dn,dnd,dr,(dm,dx),dkd,dvs,dss⟩):=⟨_,rfl⟩
 rw [← hr]
 have HR:=hid' hr
 clear hr e1 e2 e3 e4 hc hd
 go_enter Tryz.func48,Tryz.ntmps48
 go_upto_region 1 with fail
 have hK:=((Kept.refl w).alloc (.cells #[.string s1,.slice a1 n1 k1,.string s3,.int .i64 cm,.int .i64 cx,.int .i64 ckd,.slice a2 n2 k2,.slice a3 n3 k3] 32)).alloc (.cells #[.string s2,.slice b1 m1 l1,.string s4,.int .i64 dm,.int .i64 dx,.int .i64 dkd,.slice b2 m2 l2,.slice b3 m3 l3] 32)
 have hA:=(RowL.alloc 32 w [.string s1,.slice a1 n1 k1,.string s3,.int .i64 cm,.int .i64 cx,.int .i64 ckd,.slice a2 n2 k2,.slice a3 n3 k3]).kept ((Kept.refl _).alloc (.cells #[.string s2,.slice b1 m1 l1,.string s4,.int .i64 dm,.int .i64 dx,.int .i64 dkd,.slice b2 m2 l2,.slice b3 m3 l3] 32))
 have hB:=RowL.alloc 32 (w.alloc (.cells #[.string s1,.slice a1 n1 k1,.string s3,.int .i64 cm,.int .i64 cx,.int .i64 ckd,.slice a2 n2 k2,.slice a3 n3 k3] 32)) [.string s2,.slice b1 m1 l1,.string s4,.int .i64 dm,.int .i64 dx,.int .i64 dkd,.slice b2 m2 l2,.slice b3 m3 l3]
 rw [World.size_alloc] at hB
 generalize (w.alloc (.cells #[.string s1,.slice a1 n1 k1,.string s3,.int .i64 cm,.int .i64 cx,.int .i64 ckd,.slice a2 n2 k2,.slice a3 n3 k3] 32)).alloc (.cells #[.string s2,.slice b1 m1 l1,.string s4,.int .i64 dm,.int .i64 dx,.int .i64 dkd,.slice b2 m2 l2,.slice b3 m3 l3] 32) = W0 at hK hA hB ⊢
 obtain ⟨q,hq⟩:∃ q,q = w.heap.size + 1:=⟨_,rfl⟩
 rw [← hq] at hB ⊢
 obtain ⟨p,hp⟩:∃ q,q = w.heap.size:=⟨_,rfl⟩
 rw [← hp] at hA ⊢
 have HW:=hid' (And.intro hK (And.intro hA hB))
 clear hK hA hB hq hp
 have f0:=HW.out.2.1.cell 0 (.string s1)
 have f1:=HW.out.2.1.cell 1 (.slice a1 n1 k1)
 have f2:=HW.out.2.1.cell 2 (.string s3)
 have f3:=HW.out.2.1.cell 3 (.int .i64 cm)
 have f4:=HW.out.2.1.cell 4 (.int .i64 cx)
 have f5:=HW.out.2.1.cell 5 (.int .i64 ckd)
 have f6:=HW.out.2.1.cell 6 (.slice a2 n2 k2)
 have f7:=HW.out.2.1.cell 7 (.slice a3 n3 k3)
 have g0:=HW.out.2.2.cell 0 (.string s2)
 have g1:=HW.out.2.2.cell 1 (.slice b1 m1 l1)
 have g2:=HW.out.2.2.cell 2 (.string s4)
 have g3:=HW.out.2.2.cell 3 (.int .i64 dm)
 have g4:=HW.out.2.2.cell 4 (.int .i64 dx)
 have g5:=HW.out.2.2.cell 5 (.int .i64 dkd)
 have g6:=HW.out.2.2.cell 6 (.slice b2 m2 l2)
 have g7:=HW.out.2.2.cell 7 (.slice b3 m3 l3)
 by_cases x1:cn = dn
 rotate_left
 ·
  have y1:¬ s1.toList = s2.toList:=by rw [HE.out.1,HE.out.2.1]; exact x1
  have y1':(s1.toList == s2.toList) = false:=by simpa using y1
  have HF:=hid' (show r = false by rw [HR.out]; exact decide_eq_false (fun e => x1 (congrArg Cd.name e)))
  go_wp2_with fail
  go_ret
  exact ⟨HW.out.1,by rw [HF.out]; rfl⟩
 have y1:s1.toList = s2.toList:=by rw [HE.out.1,HE.out.2.1]; exact x1
 have y1':(s1.toList == s2.toList) = true:=by rw [y1]; simp
 go_wp2_with fail
 refine (eq_strs a1 b1 n1 m1 k1 l1 cnd dnd _ (HC.out.1.nodes.kept HW.out.1) (HC.out.2.nodes.kept HW.out.1) (by assumption)).mono ?_
 rintro e w1 ⟨hk,rfl⟩
 have HW:=hid' (And.intro (HW.out.1.trans hk) (And.intro (HW.out.2.1.kept hk) (HW.out.2.2.kept hk)))
 clear f0 f1 f2 f3 f4 f5 f6 f7 g0 g1 g2 g3 g4 g5 g6 g7
 clear hk
 have f0:=HW.out.2.1.cell 0 (.string s1)
 have f1:=HW.out.2.1.cell 1 (.slice a1 n1 k1)
 have f2:=HW.out.2.1.cell 2 (.string s3)
 have f3:=HW.out.2.1.cell 3 (.int .i64 cm)
 have f4:=HW.out.2.1.cell 4 (.int .i64 cx)
 have f5:=HW.out.2.1.cell 5 (.int .i64 ckd)
 have f6:=HW.out.2.1.cell 6 (.slice a2 n2 k2)
 have f7:=HW.out.2.1.cell 7 (.slice a3 n3 k3)
 have g0:=HW.out.2.2.cell 0 (.string s2)
 have g1:=HW.out.2.2.cell 1 (.slice b1 m1 l1)
 have g2:=HW.out.2.2.cell 2 (.string s4)
 have g3:=HW.out.2.2.cell 3 (.int .i64 dm)
 have g4:=HW.out.2.2.cell 4 (.int .i64 dx)
 have g5:=HW.out.2.2.cell 5 (.int .i64 dkd)
 have g6:=HW.out.2.2.cell 6 (.slice b2 m2 l2)
 have g7:=HW.out.2.2.cell 7 (.slice b3 m3 l3)
 by_cases x2:cnd = dnd
 rotate_left
 ·
  rw [decide_eq_false x2]
  have HF:=hid' (show r = false by rw [HR.out]; exact decide_eq_false (fun e => x2 (congrArg Cd.nodes e)))
  go_wp2_with fail
  go_ret
  exact ⟨HW.out.1,by rw [HF.out]; rfl⟩
 rw [decide_eq_true x2]
 by_cases x3:cr = dr
 rotate_left
 ·
  have y3:¬ s3.toList = s4.toList:=by rw [HE.out.2.2.1,HE.out.2.2.2]; exact x3
  have y3':(s3.toList == s4.toList) = false:=by simpa using y3
  have HF:=hid' (show r = false by rw [HR.out]; exact decide_eq_false (fun e => x3 (congrArg Cd.ref e)))
  go_wp2_with fail
  go_ret
  exact ⟨HW.out.1,by rw [HF.out]; rfl⟩
 have y3:s3.toList = s4.toList:=by rw [HE.out.2.2.1,HE.out.2.2.2]; exact x3
 have y3':(s3.toList == s4.toList) = true:=by rw [y3]; simp
 by_cases x4:cm = dm
 rotate_left
 ·
  have x4':(cm == dm) = false:=by simpa using x4
  have HF:=hid' (show r = false by rw [HR.out]; exact decide_eq_false (fun e => x4 (congrArg (fun c => c.val.1) e)))
  go_wp2_with fail
  go_ret
  exact ⟨HW.out.1,by rw [HF.out]; rfl⟩
 subst x4
 by_cases x5:cx = dx
 rotate_left
 ·
  have x5':(cx == dx) = false:=by simpa using x5
  have HF:=hid' (show r = false by rw [HR.out]; exact decide_eq_false (fun e => x5 (congrArg (fun c => c.val.2) e)))
  go_wp2_with fail
  go_ret
  exact ⟨HW.out.1,by rw [HF.out]; rfl⟩
 subst x5
 by_cases x6:ckd = dkd
 rotate_left
 ·
  have x6':(ckd == dkd) = false:=by simpa using x6
  have HF:=hid' (show r = false by rw [HR.out]; exact decide_eq_false (fun e => x6 (congrArg Cd.kind e)))
  go_wp2_with fail
  go_ret
  exact ⟨HW.out.1,by rw [HF.out]; rfl⟩
 subst x6
 go_wp2_with fail
 refine (eq_nums a2 b2 n2 m2 k2 l2 cvs dvs _ (HC.out.1.vals.kept HW.out.1) (HC.out.2.vals.kept HW.out.1) (by assumption)).mono ?_
 rintro e w2 ⟨hk,rfl⟩
 have HW:=hid' (And.intro (HW.out.1.trans hk) (And.intro (HW.out.2.1.kept hk) (HW.out.2.2.kept hk)))
 clear f0 f1 f2 f3 f4 f5 f6 f7 g0 g1 g2 g3 g4 g5 g6 g7
 clear hk
 have f0:=HW.out.2.1.cell 0 (.string s1)
 have f1:=HW.out.2.1.cell 1 (.slice a1 n1 k1)
 have f2:=HW.out.2.1.cell 2 (.string s3)
 have f3:=HW.out.2.1.cell 3 (.int .i64 cm)
 have f4:=HW.out.2.1.cell 4 (.int .i64 cx)
 have f5:=HW.out.2.1.cell 5 (.int .i64 ckd)
 have f6:=HW.out.2.1.cell 6 (.slice a2 n2 k2)
 have f7:=HW.out.2.1.cell 7 (.slice a3 n3 k3)
 have g0:=HW.out.2.2.cell 0 (.string s2)
 have g1:=HW.out.2.2.cell 1 (.slice b1 m1 l1)
 have g2:=HW.out.2.2.cell 2 (.string s4)
 have g3:=HW.out.2.2.cell 3 (.int .i64 cm)
 have g4:=HW.out.2.2.cell 4 (.int .i64 cx)
 have g5:=HW.out.2.2.cell 5 (.int .i64 ckd)
 have g6:=HW.out.2.2.cell 6 (.slice b2 m2 l2)
 have g7:=HW.out.2.2.cell 7 (.slice b3 m3 l3)
 by_cases x7:cvs = dvs
 rotate_left
 ·
  rw [decide_eq_false x7]
  have HF:=hid' (show r = false by rw [HR.out]; exact decide_eq_false (fun e => x7 (congrArg Cd.vals e)))
  go_wp2_with fail
  go_ret
  exact ⟨HW.out.1,by rw [HF.out]; rfl⟩
 rw [decide_eq_true x7]
 go_wp2_with fail
 refine (eq_ints a3 b3 n3 m3 k3 l3 css dss _ (HC.out.1.steps.kept HW.out.1) (HC.out.2.steps.kept HW.out.1) (by assumption)).mono ?_
 rintro e w3 ⟨hk,rfl⟩
 have HK:=hid' (HW.out.1.trans hk)
 clear hk
 have HF:=hid' (show r = decide (css = dss) by
  rw [HR.out,decide_eq_decide]
  exact ⟨fun e => congrArg Cd.steps e,fun e => by rw [x1,x2,x3,x7,e]⟩)
 clear f0 f1 f2 f3 f4 f5 f6 f7 g0 g1 g2 g3 g4 g5 g6 g7
 generalize decide (css = dss) = bb at HF ⊢
 cases bb <;>
 ·
  go_wp2_with fail
  go_ret
  exact ⟨HK.out,by rw [HF.out]; rfl⟩
end V
end Go.Proofs.YtembglnonhlnkaaGreatDoor

namespace Go.Proofs.YtembglnonhlnkaaGreatDoor
open Go.RowKit
namespace V
open Q (hid' parseOf Lett ErrV Tab okN textOf)
open X (bs OwnS RS strs bs_list bs_size)
theorem own_keptK' {w w':World} {B:Nat} {v:Value} {ws:List (List UInt8)} (h:OwnS B w v ws) (k:Kept w w'):OwnS B w' v ws:=own_kept h (fun b hb => k.block b (h.lt b hb).2)
structure CwI (w wr:World) (p:Nat) (t:TypeId) (cs:List Value) (u:Value) (ws:List (List UInt8)):Prop where
 kp:Kept w wr
 le:p≤w.heap.size
 row:RowL t wr p cs
 own:OwnS (w.heap.size + 1) wr u ws
theorem CwI.kept {w wr wr':World} {p:Nat} {t:TypeId} {cs:List Value} {u:Value} {ws:List (List UInt8)} (h:CwI w wr p t cs u ws) (k:Kept wr wr'):CwI w wr' p t cs u ws:=⟨h.kp.trans k,h.le,h.row.kept k,own_keptK' h.own k⟩
theorem CwI.add {w wr W3 W4:World} {p:Nat} {t:TypeId} {cs:List Value} {u:Value} {ws news:List (List UInt8)} {g n cap:Nat} (h:CwI w wr p t cs u ws) (KA:Kept wr W3) (own4:W4.ownsRow (w.heap.size + 1) 9 1 (.slice (some ⟨g,0,none⟩) n cap) n (strs ws ++ strs news)) (hn:n = ws.length + news.length) (hg:W3.grownBy W4 u.ownBlock) :
  CwI w W4 p t cs (.slice (some ⟨g,0,none⟩) n cap) (ws ++ news):=by
 have h3:=h.kept KA
 refine ⟨Below.grown h3.kp hg h3.kp.size (fun k hk => by have:=(h3.own.lt k hk).1; omega),h.le,h3.row.block (hg.block p h3.row.lt (fun e => by have:=(h3.own.lt p e.symm).1; have:=h.le; omega)),?_⟩
 unfold OwnS
 rw [X.strs_app,List.length_append,← hn]
 exact own4
def WwIs (k:Int) (xv sv:Value) (vs:List (Int × Int)) (ss:List Int) (w:World):Prop:=∀ V,Kept w V→Calls Tryz.prog 85 #[.agg #[.int .i64 k,xv,sv]] V fun e w' => Kept V w'∧∃ u,e = .returned u∧RS w' u (wwords k vs ss)
theorem wave_not (c:UInt8) (h:refC c = true ∨ valueC c = true):waveC c = false:=by
 rcases h with h | h
 ·
  have h1:=of_decide_eq_true h
  simp only [List.mem_cons,List.not_mem_nil,or_false] at h1
  rcases h1 with rfl | rfl | rfl | rfl | rfl <;> decide
 ·
  have h1:=of_decide_eq_true h
  simp only [List.mem_cons,List.not_mem_nil,or_false] at h1
  rcases h1 with rfl | rfl | rfl | rfl | rfl | rfl | rfl | rfl <;> decide
theorem lit_own (w:World) (B:Nat) (s:ByteArray) (hB:B≤w.heap.size):OwnS B (w.alloc (.cells #[.string s] 9)) (.slice (some ⟨w.heap.size,0,none⟩) 1 1) [s.data.toList]:=by
 refine ⟨rfl,.inr ⟨w.heap.size,1,#[.string s],rfl,hB,?_,Nat.le_refl _,by unfold maxLen; omega,rfl,rfl⟩⟩
 show (w.heap.push _)[w.heap.size]? = _
 simp
set_option maxRecDepth 100000 in
set_option maxHeartbeats 8000000 in
theorem cardWords_plain (a1 a2 a3:Option Addr) (n1 k1 n2 k2 n3 k3:Nat) (c:Cd) (w:World) (hL:Lett w) (hT:Tab w) (hc:CdR w a1 n1 k1 a2 n2 k2 a3 n3 k3 c) (hh:0 < c.name.length) (hl:(n1 + 200) * 16≤140737488355328) (hw:waveC (c.name.getD 0 0) = false) :
  Calls Tryz.prog 47 #[cdV c (.slice a1 n1 k1) (.slice a2 n2 k2) (.slice a3 n3 k3)] w fun e w' => Kept w w'∧∃ u,e = .returned u∧OwnS w.heap.size w' u (cwords c):=by
 obtain ⟨cn,cnd,cr,⟨cm,cx⟩,ckd,cvs,css⟩:=c
 unfold cdV
 simp only at hh hw ⊢
 have HC:=hid' (And.intro hc (And.intro hL (And.intro hT (And.intro hh hw))))
 have HLN:=hid' (show n1 = cnd.length from rs_len hc.nodes)
 obtain ⟨s1,hs1⟩:∃ s,s = bs cn:=⟨_,rfl⟩
 obtain ⟨s3,hs3⟩:∃ s,s = bs cr:=⟨_,rfl⟩
 rw [← hs1,← hs3]
 have HE:=hid' (And.intro hs1 hs3)
 clear hs1 hs3 hc hL hT hh hw
 obtain ⟨i0,hi,hz0,hz1,hz2⟩:=info_parts X.info_str
 go_enter Tryz.func47,Tryz.ntmps47
 go_wp2_with fail
 have hK:=(Kept.refl w).alloc (.cells #[.string s1,.slice a1 n1 k1,.string s3,.int .i64 cm,.int .i64 cx,.int .i64 ckd,.slice a2 n2 k2,.slice a3 n3 k3] 32)
 have hA:=RowL.alloc 32 w [.string s1,.slice a1 n1 k1,.string s3,.int .i64 cm,.int .i64 cx,.int .i64 ckd,.slice a2 n2 k2,.slice a3 n3 k3]
 generalize w.alloc (.cells #[.string s1,.slice a1 n1 k1,.string s3,.int .i64 cm,.int .i64 cx,.int .i64 ckd,.slice a2 n2 k2,.slice a3 n3 k3] 32) = W0 at hK hA ⊢
 obtain ⟨p,hp⟩:∃ q,q = w.heap.size:=⟨_,rfl⟩
 rw [← hp] at hA ⊢
 refine (anew_any s1 _).mono ?_
 rintro e w1 ⟨hk1,rfl⟩
 have hA:=hA.kept hk1
 have f1:=hA.cell 1 (.slice a1 n1 k1)
 have f1':=(hA.kept ((Kept.refl w1).alloc (.cells #[.string s1] 9))).cell 1 (.slice a1 n1 k1)
 have HP:=hid' hp
 have HW:=hid' (And.intro (hK.trans hk1) hA)
 clear hK hA hk1 hp
 go_wp2_with fail
 have HI0:Hid (CwI w _ p 32 [.string s1,.slice a1 n1 k1,.string s3,.int .i64 cm,.int .i64 cx,.int .i64 ckd,.slice a2 n2 k2,.slice a3 n3 k3] (.slice (some ⟨w1.heap.size,0,none⟩) 1 1) [s1.data.toList]):=⟨HW.out.1.alloc (.cells #[.string s1] 9),by rw [HP.out]; exact Nat.le_refl _,HW.out.2.kept ((Kept.refl w1).alloc (.cells #[.string s1] 9)),lit_own w1 _ s1 (by have:=HW.out.2.lt; have:=HP.out; omega)⟩
 generalize w1.alloc (.cells #[.string s1] 9) = W1 at HI0 f1' ⊢
 generalize (Value.slice (some ⟨w1.heap.size,0,none⟩) 1 1) = u0 at HI0 ⊢
 go_loopw [3,14] (fun vu vi wr => ∃ k:Nat,k≤n1∧vi = .int .i64 (k:Int)∧Hid (CwI w wr p 32 [.string s1,.slice a1 n1 k1,.string s3,.int .i64 cm,.int .i64 cx,.int .i64 ckd,.slice a2 n2 k2,.slice a3 n3 k3] vu ([s1.data.toList] ++ cnd.take k))) (fun _ vi _ => n1 - (intOf vi).toNat)
 case atStart => exact ⟨0,Nat.zero_le _,rfl,by rw [List.take_zero,List.append_nil]; exact HI0.out⟩
 case round =>
  obtain ⟨k,hk,rfl,HI⟩:=hrel
  clear HI0
  by_cases hkt:k < n1
  ·
   have hki:(k:Int) < (n1:Int):=by omega
   obtain ⟨ao',c',hv',hx⟩:=HC.out.1.nodes.kept HI.out.kp
   simp only [Value.slice.injEq] at hv'
   obtain ⟨rfl,hnw0,rfl⟩:=hv'
   clear hnw0
   have hnw:n1 = cnd.length:=HLN.out
   obtain ⟨b,off,rfl,hb,hcl⟩:=hx (show 0 < cnd.length by omega)
   have q0:wr.cell? ⟨b,off + k,none⟩ = some (.string (bs (cnd.getD k []))):=hcl k (show k < cnd.length by omega)
   obtain ⟨sk,hsk⟩:∃ s,s = bs (cnd.getD k []):=⟨_,rfl⟩
   rw [← hsk] at q0
   have HTK:=hid' (show [s1.data.toList] ++ cnd.take k ++ [sk.data.toList] = [s1.data.toList] ++ cnd.take (k + 1) by
    rw [hsk,bs_list,List.append_assoc,List.take_succ_eq_append_getElem (by omega)]
    simp [List.getElem?_eq_getElem (show k < cnd.length by omega)])
   obtain ⟨wk,hwk⟩:∃ l,l = [s1.data.toList] ++ cnd.take k:=⟨_,rfl⟩
   rw [← hwk] at HI HTK
   have HLW:=hid' (show wk.length≤n1 + 1 by rw [hwk,List.length_append,List.length_take]; simp; omega)
   clear hx hcl hnw hsk hwk
   go_wp2_with fail
   refine (anew_any sk _).mono ?_
   rintro e w2 ⟨hk2,rfl⟩
   have HI:=hid' (HI.out.kept hk2)
   clear hk2
   have KA:=(Kept.refl w2).alloc (.cells #[.string sk] 9)
   go_wp2_with (at_builtin; refine wpList_append_lies _ rfl (.tmp 18) (.tmp 21) 22 rfl (w.heap.size + 1) 9 i0 (.string ByteArray.empty) 1 16 X.und_strs hi hz0 hz1 hz2 rfl (by decide) u3 wk.length (strs wk) rfl (by exact (HI.out.kept KA).own) ⟨w2.heap.size,0,none⟩ 1 1 [.string sk] rfl rfl (X.cell_new w2 _ _) (fun u hu => by simp at hu; subst hu; rfl) (by omega) (by have:=HLW.out; unfold maxLen; omega) (by have:=HLW.out; omega) (by have:=HI.out.kp.size; have:=HI.out.row.lt; have:=HI.out.le; have:=HP.out; simp; omega) _ rfl ?_)
   intro g4 cap4 W4 own4 hg4 hgg _
   have HI:=hid' (HI.out.add (news:=[sk.data.toList]) KA own4 rfl hg4)
   clear own4 hg4 hgg KA
   go_wp2_with fail
   go_roundw
   case rel => exact ⟨k + 1,by omega,by go_num,by rw [← HTK.out]; exact HI.out⟩
   case measure => show n1 - ((k:Int) + 1).toNat < n1 - (k:Int).toNat; omega
  ·
   have hki:¬ (k:Int) < (n1:Int):=by omega
   obtain rfl:k = n1:=by omega
   rw [List.take_of_length_le (by rw [← HLN.out]; exact Nat.le_refl _)] at HI
   have f0:=HI.out.row.cell 0 (.string s1)
   have hs1:0 < s1.size:=by rw [HE.out.1,bs_size]; exact HC.out.2.2.2.1
   have hs1':(0:Int) < (s1.size:Int):=by omega
   have HQ:=hid' (show s1[0] = cn.getD 0 0 from head_of hs1 HE.out.1)
   have HCW:=hid' (show cwords ⟨cn,cnd,cr,(cm,cx),ckd,cvs,css⟩ = [s1.data.toList] ++ cnd ++ (if refC s1[0] = true then [cr] else []) ++ (if valueC s1[0] = true then [tx (cm,cx)] else []) ++ (if waveC s1[0] = true then wwords ckd cvs css else []) by
    unfold cwords
    rw [HQ.out,HE.out.1,bs_list])
   go_wp2_with fail
   refine (among_is s1[0] ⟨#[102,104,100,115,120]⟩ [102,104,100,115,120] _ rfl).mono ?_
   rintro e w2 ⟨rfl,rfl⟩
   rw [show decide (s1[0] ∈ ([102,104,100,115,120]:List UInt8)) = refC s1[0] from rfl]
   obtain ⟨sv,hsv⟩:∃ s,s = bs (tx (cm,cx)):=⟨_,rfl⟩
   have HLW:=hid' (show ([s1.data.toList] ++ cnd).length≤k + 1 by rw [List.length_append,← HLN.out]; simp only [List.length_cons,List.length_nil]; omega)
   have HSV:=hid' hsv
   clear hsv
   have f2:=HI.out.row.cell 2 (.string s3)
   have f3:=HI.out.row.cell 3 (.int .i64 cm)
   have f4:=HI.out.row.cell 4 (.int .i64 cx)
   have f5:=HI.out.row.cell 5 (.int .i64 ckd)
   have f6:=HI.out.row.cell 6 (.slice a2 n2 k2)
   have f7:=HI.out.row.cell 7 (.slice a3 n3 k3)
   cases hr:refC s1[0]
   ·
    go_wp2_with fail
    refine (among_is s1[0] ⟨#[114,99,108,101,103,102,104,116]⟩ [114,99,108,101,103,102,104,116] _ rfl).mono ?_
    rintro e WV ⟨rfl,rfl⟩
    rw [show decide (s1[0] ∈ ([114,99,108,101,103,102,104,116]:List UInt8)) = valueC s1[0] from rfl]
    cases hv:valueC s1[0]
    ·
     go_wp2_with fail
     refine (among_is s1[0] ⟨#[118,105]⟩ [118,105] _ rfl).mono ?_
     rintro e WV ⟨rfl,rfl⟩
     rw [show decide (s1[0] ∈ ([118,105]:List UInt8)) = waveC s1[0] from rfl]
     cases hw:waveC s1[0]
     ·
      have HFW:=hid' (show cwords ⟨cn,cnd,cr,(cm,cx),ckd,cvs,css⟩ = [s1.data.toList] ++ cnd by rw [HCW.out,hr,hv,hw]; simp)
      go_wp2_with fail
      go_ret
      exact ⟨HI.out.kp,_,rfl,by rw [HFW.out]; exact own_mono HI.out.own (Nat.le_succ _)⟩
     ·
      exact absurd (show waveC (cn.getD 0 0) = true by rw [← HQ.out]; exact hw) (by rw [HC.out.2.2.2.2]; decide)
    ·
     have hw:=wave_not s1[0] (.inr hv)
     go_wp2_with fail
     refine (ctext_any cm cx _ (HC.out.2.1.kept HI.out.kp) (HC.out.2.2.1.kept HI.out.kp)).mono ?_
     rintro e w4 ⟨hk4,rfl⟩
     have HI:=hid' (HI.out.kept hk4)
     rw [← HSV.out]
     clear f0 f2 f3 f4 f5 f6 f7
     clear hk4
     have KA:=(Kept.refl w4).alloc (.cells #[.string sv] 9)
     go_wp2_with (at_builtin; refine wpList_append_lies _ rfl (.tmp 37) (.tmp 41) 22 rfl (w.heap.size + 1) 9 i0 (.string ByteArray.empty) 1 16 X.und_strs hi hz0 hz1 hz2 rfl (by decide) u3 ([s1.data.toList] ++ cnd).length (strs ([s1.data.toList] ++ cnd)) rfl (by exact (HI.out.kept KA).own) ⟨w4.heap.size,0,none⟩ 1 1 [.string sv] rfl rfl (X.cell_new w4 _ _) (fun u hu => by simp at hu; subst hu; rfl) (by omega) (by have:=HLW.out; unfold maxLen; omega) (by have:=HLW.out; omega) (by have:=HI.out.kp.size; have:=HI.out.row.lt; have:=HI.out.le; have:=HP.out; simp; omega) _ rfl ?_)
     intro g4 cap4 W4 own4 hg4 hgg _
     have HI:=hid' (HI.out.add (news:=[sv.data.toList]) KA own4 rfl hg4)
     clear own4 hg4 hgg KA
     have f0:=HI.out.row.cell 0 (.string s1)
     have f2:=HI.out.row.cell 2 (.string s3)
     have f3:=HI.out.row.cell 3 (.int .i64 cm)
     have f4:=HI.out.row.cell 4 (.int .i64 cx)
     have f5:=HI.out.row.cell 5 (.int .i64 ckd)
     have f6:=HI.out.row.cell 6 (.slice a2 n2 k2)
     have f7:=HI.out.row.cell 7 (.slice a3 n3 k3)
     go_wp2_with fail
     refine (among_is s1[0] ⟨#[118,105]⟩ [118,105] _ rfl).mono ?_
     rintro e WV ⟨rfl,rfl⟩
     rw [show decide (s1[0] ∈ ([118,105]:List UInt8)) = waveC s1[0] from rfl]
     rw [hw]
     have HFW:=hid' (show cwords ⟨cn,cnd,cr,(cm,cx),ckd,cvs,css⟩ = [s1.data.toList] ++ cnd ++ [sv.data.toList] by rw [HCW.out,hr,hv,hw]; simp [HSV.out,bs_list])
     go_wp2_with fail
     go_ret
     exact ⟨HI.out.kp,_,rfl,by rw [HFW.out]; exact own_mono HI.out.own (Nat.le_succ _)⟩
   ·
    have hw:=wave_not s1[0] (.inl hr)
    go_wp2_with fail
    refine (anew_any s3 _).mono ?_
    rintro e w3 ⟨hk3,rfl⟩
    have HI:=hid' (HI.out.kept hk3)
    clear f0 f2 f3 f4 f5 f6 f7
    clear hk3
    have KA:=(Kept.refl w3).alloc (.cells #[.string s3] 9)
    go_wp2_with (at_builtin; refine wpList_append_lies _ rfl (.tmp 29) (.tmp 33) 22 rfl (w.heap.size + 1) 9 i0 (.string ByteArray.empty) 1 16 X.und_strs hi hz0 hz1 hz2 rfl (by decide) u3 ([s1.data.toList] ++ cnd).length (strs ([s1.data.toList] ++ cnd)) rfl (by exact (HI.out.kept KA).own) ⟨w3.heap.size,0,none⟩ 1 1 [.string s3] rfl rfl (X.cell_new w3 _ _) (fun u hu => by simp at hu; subst hu; rfl) (by omega) (by have:=HLW.out; unfold maxLen; omega) (by have:=HLW.out; omega) (by have:=HI.out.kp.size; have:=HI.out.row.lt; have:=HI.out.le; have:=HP.out; simp; omega) _ rfl ?_)
    intro g4 cap4 W4 own4 hg4 hgg _
    have HI:=hid' (HI.out.add (news:=[s3.data.toList]) KA own4 rfl hg4)
    clear own4 hg4 hgg KA
    have f0:=HI.out.row.cell 0 (.string s1)
    have f2:=HI.out.row.cell 2 (.string s3)
    have f3:=HI.out.row.cell 3 (.int .i64 cm)
    have f4:=HI.out.row.cell 4 (.int .i64 cx)
    have f5:=HI.out.row.cell 5 (.int .i64 ckd)
    have f6:=HI.out.row.cell 6 (.slice a2 n2 k2)
    have f7:=HI.out.row.cell 7 (.slice a3 n3 k3)
    go_wp2_with fail
    refine (among_is s1[0] ⟨#[114,99,108,101,103,102,104,116]⟩ [114,99,108,101,103,102,104,116] _ rfl).mono ?_
    rintro e WV ⟨rfl,rfl⟩
    rw [show decide (s1[0] ∈ ([114,99,108,101,103,102,104,116]:List UInt8)) = valueC s1[0] from rfl]
    cases hv:valueC s1[0]
    ·
     go_wp2_with fail
     refine (among_is s1[0] ⟨#[118,105]⟩ [118,105] _ rfl).mono ?_
     rintro e WV ⟨rfl,rfl⟩
     rw [show decide (s1[0] ∈ ([118,105]:List UInt8)) = waveC s1[0] from rfl]
     rw [hw]
     have HFW:=hid' (show cwords ⟨cn,cnd,cr,(cm,cx),ckd,cvs,css⟩ = [s1.data.toList] ++ cnd ++ [s3.data.toList] by rw [HCW.out,hr,hv,hw]; simp [HE.out.2,bs_list])
     go_wp2_with fail
     go_ret
     exact ⟨HI.out.kp,_,rfl,by rw [HFW.out]; exact own_mono HI.out.own (Nat.le_succ _)⟩
    ·
     have HLW:=hid' (show ([s1.data.toList] ++ cnd ++ [s3.data.toList]).length≤k + 2 by rw [List.length_append]; have:=HLW.out; simp only [List.length_cons,List.length_nil]; omega)
     go_wp2_with fail
     refine (ctext_any cm cx _ (HC.out.2.1.kept HI.out.kp) (HC.out.2.2.1.kept HI.out.kp)).mono ?_
     rintro e w4 ⟨hk4,rfl⟩
     have HI:=hid' (HI.out.kept hk4)
     rw [← HSV.out]
     clear f0 f2 f3 f4 f5 f6 f7
     clear hk4
     have KA:=(Kept.refl w4).alloc (.cells #[.string sv] 9)
     go_wp2_with (at_builtin; refine wpList_append_lies _ rfl (.tmp 37) (.tmp 41) 22 rfl (w.heap.size + 1) 9 i0 (.string ByteArray.empty) 1 16 X.und_strs hi hz0 hz1 hz2 rfl (by decide) (.slice (some ⟨g4,0,none⟩) (([s1.data.toList] ++ cnd).length + 1) cap4) ([s1.data.toList] ++ cnd ++ [s3.data.toList]).length (strs ([s1.data.toList] ++ cnd ++ [s3.data.toList])) rfl (by exact (HI.out.kept KA).own) ⟨w4.heap.size,0,none⟩ 1 1 [.string sv] rfl rfl (X.cell_new w4 _ _) (fun u hu => by simp at hu; subst hu; rfl) (by omega) (by have:=HLW.out; unfold maxLen; omega) (by have:=HLW.out; omega) (by have:=HI.out.kp.size; have:=HI.out.row.lt; have:=HI.out.le; have:=HP.out; simp; omega) _ rfl ?_)
     intro g4 cap4 W4 own4 hg4 hgg _
     have HI:=hid' (HI.out.add (news:=[sv.data.toList]) KA own4 (by simp) hg4)
     clear own4 hg4 hgg KA
     have f0:=HI.out.row.cell 0 (.string s1)
     have f2:=HI.out.row.cell 2 (.string s3)
     have f3:=HI.out.row.cell 3 (.int .i64 cm)
     have f4:=HI.out.row.cell 4 (.int .i64 cx)
     have f5:=HI.out.row.cell 5 (.int .i64 ckd)
     have f6:=HI.out.row.cell 6 (.slice a2 n2 k2)
     have f7:=HI.out.row.cell 7 (.slice a3 n3 k3)
     go_wp2_with fail
     refine (among_is s1[0] ⟨#[118,105]⟩ [118,105] _ rfl).mono ?_
     rintro e WV ⟨rfl,rfl⟩
     rw [show decide (s1[0] ∈ ([118,105]:List UInt8)) = waveC s1[0] from rfl]
     rw [hw]
     have HFW:=hid' (show cwords ⟨cn,cnd,cr,(cm,cx),ckd,cvs,css⟩ = [s1.data.toList] ++ cnd ++ [s3.data.toList] ++ [sv.data.toList] by rw [HCW.out,hr,hv,hw]; simp [HE.out.2,HSV.out,bs_list])
     go_wp2_with fail
     go_ret
     exact ⟨HI.out.kp,_,rfl,by rw [HFW.out]; exact own_mono HI.out.own (Nat.le_succ _)⟩
end V
end Go.Proofs.YtembglnonhlnkaaGreatDoor

namespace Go.Proofs.YtembglnonhlnkaaGreatDoor
open Go.RowKit
namespace V
open Q (hid' parseOf Lett ErrV Tab okN textOf)
open X (bs OwnS RS strs bs_list bs_size)
def mw (gs vs:List (Int × Int)):Nat→List (List UInt8)
 | 0 => []
 | k + 1 => mw gs vs k ++ (if k = 0 then [] else [tx (vs.getD (k - 1) (0,0))]) ++ [tx (gs.getD k (0,0))]
def mwords (m:Md):List (List UInt8):=[[46,109,111,100,101,108],m.name,[m.kind.toNat.toUInt8]] ++ mw m.gs m.vs m.gs.length
theorem mw_len (gs vs:List (Int × Int)):∀ k,(mw gs vs k).length≤2 * k
 | 0 => Nat.le_refl _
 | k + 1 => by
  have:=mw_len gs vs k
  rw [mw,List.length_append,List.length_append]
  split <;> simp only [List.length_cons,List.length_nil] <;> omega
def WmIs (B:Nat) (w:World) (e:Ending) (m:Md):Prop :=
 (okM m.name m.kind m.gs m.vs = false∧e = .returned (.tuple #[.slice none 0 0,.int .i64 50])) ∨ (okM m.name m.kind m.gs m.vs = true∧∃ u,e = .returned (.tuple #[u,.int .i64 0])∧OwnS B w u (mwords m))
theorem okM_kind {s:List UInt8} {k:Int} {gs vs:List (Int × Int)} (h:okM s k gs vs = true):(k = 100 ∨ k = 115)∧gs.length = vs.length + 1∧gs.length≤4∧s.length≤16:=by
 unfold okM at h
 simp only [Bool.and_eq_true] at h
 have h1:=h.1.1.1.2
 have h2:=okName_len h.1.1.1.1
 unfold fitsM at h1
 split at h1
 ·
  rename_i e; have:=of_decide_eq_true h1; exact ⟨.inl e,this.1,this.2,h2⟩
 ·
  split at h1
  ·
   rename_i e; have:=of_decide_eq_true h1; exact ⟨.inr e,by omega,by omega,h2⟩
  ·
   cases h1
theorem str_one (k:Int):strOfNums [k] = ⟨#[k.toNat.toUInt8]⟩:=rfl
theorem lit3_own (w:World) (B:Nat) (s t u:ByteArray) (hB:B≤w.heap.size):OwnS B (w.alloc (.cells #[.string s,.string t,.string u] 9)) (.slice (some ⟨w.heap.size,0,none⟩) 3 3) [s.data.toList,t.data.toList,u.data.toList]:=by
 refine ⟨rfl,.inr ⟨w.heap.size,3,#[.string s,.string t,.string u],rfl,hB,?_,Nat.le_refl _,by unfold maxLen; omega,rfl,rfl⟩⟩
 show (w.heap.push _)[w.heap.size]? = _
 simp
set_option maxRecDepth 100000 in
set_option maxHeartbeats 8000000 in
theorem writeM_any (s:ByteArray) (k:Int) (a1 a2:Option Addr) (n c n2 c2:Nat) (gs vs:List (Int × Int)) (w:World) (hL:Lett w) (hT:Tab w) (hs:s.size≤9223372036854775807) (h1:NSl w (.slice a1 n c) gs) (h2:NSl w (.slice a2 n2 c2) vs) (hn:n≤4611686018427387903) (hm:n2≤4611686018427387903) :
  Calls Tryz.prog 18 #[.agg #[.string s,.int .u8 k,.slice a1 n c,.slice a2 n2 c2]] w fun e w' => Kept w w'∧WmIs w.heap.size w' e ⟨s.data.toList,k,gs,vs⟩:=by
 have HC0:=hid' (And.intro hL (And.intro hT (And.intro h1 h2)))
 have hva:=fun V (K:Kept w V) => validM_any s k a1 a2 n c n2 c2 gs vs V hs (h1.kept K) (h2.kept K) hn hm
 have HLN:=hid' (And.intro h1.len h2.len)
 clear hL hT h1 h2
 obtain ⟨i0,hi,hz0,hz1,hz2⟩:=info_parts X.info_str
 cases hok:okM s.data.toList k gs vs
 ·
  rw [hok] at hva
  have HOK:=hid' hok
  go_enter Tryz.func18,Tryz.ntmps18
  go_wp2_with fail
  refine (hva _ ((Kept.refl w).alloc _)).mono ?_
  rintro e w1 ⟨hk,rfl⟩
  have HK:=hid' (((Kept.refl w).alloc _).trans hk)
  clear hk hva
  go_wp2_with fail
  go_ret2
  exact ⟨HK.out,.inl ⟨HOK.out,rfl⟩⟩
 ·
  rw [hok] at hva
  have HOK:=hid' (And.intro hok (okM_kind hok))
  clear hok
  go_enter Tryz.func18,Tryz.ntmps18
  go_wp2_with fail
  have hK:=(Kept.refl w).alloc (.cells #[.string s,.int .u8 k,.slice a1 n c,.slice a2 n2 c2] 43)
  have hA:=RowL.alloc 43 w [.string s,.int .u8 k,.slice a1 n c,.slice a2 n2 c2]
  generalize w.alloc (.cells #[.string s,.int .u8 k,.slice a1 n c,.slice a2 n2 c2] 43) = W0 at hK hA ⊢
  refine (hva _ hK).mono ?_
  rintro e w1 ⟨hk1,rfl⟩
  obtain ⟨p,hp⟩:∃ q,q = w.heap.size:=⟨_,rfl⟩
  rw [← hp] at hA ⊢
  have HP:=hid' hp
  have HW:=hid' (And.intro (hK.trans hk1) (hA.kept hk1))
  clear hK hA hk1 hva hp
  go_upto_region 3 with fail
  go_cut [4] (fun v4 wc => ∃ g,v4 = .slice (some ⟨g,0,none⟩) 3 3∧Hid (Kept w1 wc∧OwnS (w.heap.size + 1) wc (.slice (some ⟨g,0,none⟩) 3 3) [[46,109,111,100,101,108],s.data.toList,[k.toNat.toUInt8]]))
  case first =>
   have sS:=hid' (fun (V:World) (K:Kept w1 V) => And.intro ((HW.out.2.kept K).cell 0 (.string s)) ((HW.out.2.kept K).cell 1 (.int .u8 k)))
   have KT:Kept w1 w1.drew:=(Kept.refl _).drew
   refine wp_region_held_drew (S:=fun w' => w'.cell? ⟨p,0,none⟩ = some (.string s)∧w'.cell? ⟨p,1,none⟩ = some (.int .u8 k)) (by kernel_rfl) (sS.out _ KT) (fun hHeld => ?_)
   generalize w1.drew = Wd at KT hHeld ⊢
   refine tk 0 hHeld ?_
   refine tk 1 hHeld ?_
   refine tk 3 hHeld ?_
   refine tk 4 hHeld ?_
   refine wpAnyH_ready (rs:=[2,5]) (by kernel_rfl) (by simp) ?_
   refine AllReadyH.cons rfl (fun K hK => ?_) (AllReadyH.cons rfl (fun K hK => ?_) AllReadyH.nil)
   ·
    go_simp
    refine (anew_any s _).mono ?_
    rintro e w2 ⟨hk2,rfl⟩
    have KT:=KT.trans hk2
    refine hK.out _ _ (sS.out _ KT) (fun hHeld => ?_)
    clear hK K hk2
    refine rdy 5 fun K hK => ?_
    go_simp
    refine hK.out _ _ (sS.out _ (KT.alloc _)) (fun hHeld => ?_)
    clear hK K
    have HBc:(w2.alloc (.cells #[.int .u8 k] 5)).cell? ⟨w2.heap.size,0,none⟩ = some (.int .u8 k):=by simp
    have KT:=KT.alloc (.cells #[.int .u8 k] 5)
    obtain ⟨gb,hgb⟩:∃ q,q = w2.heap.size:=⟨_,rfl⟩
    have hgl:w2.heap.size < (w2.alloc (.cells #[.int .u8 k] 5)).heap.size:=by simp
    rw [← hgb] at HBc hgl ⊢
    generalize w2.alloc (.cells #[.int .u8 k] 5) = WB at KT HBc hgl hHeld ⊢
    clear hgb
    refine rdy 6 fun K hK => ?_
    have hcv:=run_convert_bytes_arg (P:=Tryz.prog) WB 78 5 Tryz.underlying78 Tryz.underlying5 gb 0 1 1 [k] rfl (fun j hj => by
     obtain rfl:j = 0:=by omega
     exact HBc) 9 Tryz.underlying9
    rw [str_one] at hcv
    go_simp
    refine hK.out _ _ (sS.out _ KT) (fun hHeld => ?_)
    clear hK K hcv
    refine rdy 7 fun K hK => ?_
    go_simp
    refine hK.out _ _ (sS.out _ (KT.alloc _)) (fun hHeld => ?_)
    clear hK K
    have hO:=lit3_own WB (w.heap.size + 1) ⟨#[46,109,111,100,101,108]⟩ s ⟨#[k.toNat.toUInt8]⟩ (by have h1:=KT.size; have h2:=HW.out.2.lt; have h3:=HP.out; omega)
    have HF:=hid' (And.intro (KT.alloc (.cells #[.string ⟨#[46,109,111,100,101,108]⟩,.string s,.string ⟨#[k.toNat.toUInt8]⟩] 9)) hO)
    clear hO
    refine tk 8 hHeld ?_
    refine dn ?_
    go_wp2_with fail
    go_meet
    case rel => exact ⟨_,rfl,HF.out⟩
   ·
    go_simp
    refine hK.out _ _ (sS.out _ (KT.alloc _)) (fun hHeld => ?_)
    clear hK K
    have HBc:(Wd.alloc (.cells #[.int .u8 k] 5)).cell? ⟨Wd.heap.size,0,none⟩ = some (.int .u8 k):=by simp
    have KT:=KT.alloc (.cells #[.int .u8 k] 5)
    obtain ⟨gb,hgb⟩:∃ q,q = Wd.heap.size:=⟨_,rfl⟩
    have hgl:Wd.heap.size < (Wd.alloc (.cells #[.int .u8 k] 5)).heap.size:=by simp
    rw [← hgb] at HBc hgl ⊢
    generalize Wd.alloc (.cells #[.int .u8 k] 5) = WB at KT HBc hgl hHeld ⊢
    clear hgb
    refine wpAnyH_ready (rs:=[2,6]) (by kernel_rfl) (by simp) ?_
    refine AllReadyH.cons rfl (fun K hK => ?_) (AllReadyH.cons rfl (fun K hK => ?_) AllReadyH.nil)
    ·
     go_simp
     refine (anew_any s _).mono ?_
     rintro e w2 ⟨hk2,rfl⟩
     have KT:=KT.trans hk2
     have HBc:=(Below.cell hk2 (p:=⟨gb,0,none⟩) hgl).trans HBc
     refine hK.out _ _ (sS.out _ KT) (fun hHeld => ?_)
     clear hK K hk2
     refine rdy 6 fun K hK => ?_
     have hcv:=run_convert_bytes_arg (P:=Tryz.prog) w2 78 5 Tryz.underlying78 Tryz.underlying5 gb 0 1 1 [k] rfl (fun j hj => by
      obtain rfl:j = 0:=by omega
      exact HBc) 9 Tryz.underlying9
     rw [str_one] at hcv
     go_simp
     refine hK.out _ _ (sS.out _ KT) (fun hHeld => ?_)
     clear hK K hcv
     refine rdy 7 fun K hK => ?_
     go_simp
     refine hK.out _ _ (sS.out _ (KT.alloc _)) (fun hHeld => ?_)
     clear hK K
     have hO:=lit3_own w2 (w.heap.size + 1) ⟨#[46,109,111,100,101,108]⟩ s ⟨#[k.toNat.toUInt8]⟩ (by have h1:=KT.size; have h2:=HW.out.2.lt; have h3:=HP.out; omega)
     have HF:=hid' (And.intro (KT.alloc (.cells #[.string ⟨#[46,109,111,100,101,108]⟩,.string s,.string ⟨#[k.toNat.toUInt8]⟩] 9)) hO)
     clear hO
     refine tk 8 hHeld ?_
     refine dn ?_
     go_wp2_with fail
     go_meet
     case rel => exact ⟨_,rfl,HF.out⟩
    ·
     have hcv:=run_convert_bytes_arg (P:=Tryz.prog) WB 78 5 Tryz.underlying78 Tryz.underlying5 gb 0 1 1 [k] rfl (fun j hj => by
      obtain rfl:j = 0:=by omega
      exact HBc) 9 Tryz.underlying9
     rw [str_one] at hcv
     go_simp
     refine hK.out _ _ (sS.out _ KT) (fun hHeld => ?_)
     clear hK K hcv
     refine rdy 2 fun K hK => ?_
     go_simp
     refine (anew_any s _).mono ?_
     rintro e w2 ⟨hk2,rfl⟩
     have KT:=KT.trans hk2
     refine hK.out _ _ (sS.out _ KT) (fun hHeld => ?_)
     clear hK K hk2
     refine rdy 7 fun K hK => ?_
     go_simp
     refine hK.out _ _ (sS.out _ (KT.alloc _)) (fun hHeld => ?_)
     clear hK K
     have hO:=lit3_own w2 (w.heap.size + 1) ⟨#[46,109,111,100,101,108]⟩ s ⟨#[k.toNat.toUInt8]⟩ (by have h1:=KT.size; have h2:=HW.out.2.lt; have h3:=HP.out; omega)
     have HF:=hid' (And.intro (KT.alloc (.cells #[.string ⟨#[46,109,111,100,101,108]⟩,.string s,.string ⟨#[k.toNat.toUInt8]⟩] 9)) hO)
     clear hO
     refine tk 8 hHeld ?_
     refine dn ?_
     go_wp2_with fail
     go_meet
     case rel => exact ⟨_,rfl,HF.out⟩
  case rest =>
   obtain ⟨g,rfl,HC⟩:=hcut
   have HI0:Hid (CwI w wc p 43 [.string s,.int .u8 k,.slice a1 n c,.slice a2 n2 c2] (.slice (some ⟨g,0,none⟩) 3 3) ([[46,109,111,100,101,108],s.data.toList,[k.toNat.toUInt8]] ++ mw gs vs 0)):=⟨HW.out.1.trans HC.out.1,by rw [HP.out]; exact Nat.le_refl _,HW.out.2.kept HC.out.1,by rw [mw,List.append_nil]; exact HC.out.2⟩
   generalize (Value.slice (some ⟨g,0,none⟩) 3 3) = u0 at HI0 ⊢
   have f2:=HI0.out.row.cell 2 (.slice a1 n c)
   have hn4:n≤4:=by have h1:=HOK.out.2.2.2.1; have h2:=HLN.out.1; omega
   go_wp2_with fail
   go_loopw [4,21] (fun vu vi wr => ∃ j:Nat,j≤n∧vi = .int .i64 (j:Int)∧Hid (CwI w wr p 43 [.string s,.int .u8 k,.slice a1 n c,.slice a2 n2 c2] vu ([[46,109,111,100,101,108],s.data.toList,[k.toNat.toUInt8]] ++ mw gs vs j))) (fun _ vi _ => n - (intOf vi).toNat)
   case atStart => exact ⟨0,Nat.zero_le _,rfl,HI0.out⟩
   case round =>
    obtain ⟨j,hj,rfl,HI⟩:=hrel
    clear HI0 f2
    by_cases hjt:j < n
    ·
     have hji:(j:Int) < (n:Int):=by omega
     obtain ⟨ao',c',hv',hx⟩:=HC0.out.2.2.1.kept HI.out.kp
     simp only [Value.slice.injEq] at hv'
     obtain ⟨rfl,hnw0,rfl⟩:=hv'
     clear hnw0
     have hnw:n = gs.length:=HLN.out.1
     obtain ⟨b,off,rfl,hb,hcl⟩:=hx (by omega)
     obtain ⟨q0,q1⟩:=hcl j (by omega)
     have hbw:¬ b = wr.heap.size:=by omega
     generalize hy:gs.getD j (0,0) = y at q0 q1
     obtain ⟨y0,y1⟩:=y
     simp only at q0 q1
     have HY:=hid' hy
     clear hx hcl hnw hy
     obtain ⟨wk,hwk⟩:∃ l,l = [[46,109,111,100,101,108],s.data.toList,[k.toNat.toUInt8]] ++ mw gs vs j:=⟨_,rfl⟩
     rw [← hwk] at HI
     have HWK:=hid' hwk
     have HLW:=hid' (show wk.length≤100 by rw [hwk,List.length_append]; have:=mw_len gs vs j; simp only [List.length_cons,List.length_nil]; omega)
     clear hwk
     have kN:=(Kept.refl wr).alloc (.cells #[.int .i64 y0,.int .i64 y1] 26)
     have hNr:=Q.Row2.alloc 26 wr (.int .i64 y0) (.int .i64 y1)
     have HI:=hid' (HI.out.kept kN)
     by_cases hj0:j = 0
     ·
      have hjn:¬ (0:Int) < (j:Int):=by omega
      have HJ0:=hid' hj0
      clear hj0
      go_wp2_with fail
      generalize wr.alloc (.cells #[.int .i64 y0,.int .i64 y1] 26) = W1 at HI hNr ⊢
      clear kN
      refine (ctext_any y0 y1 _ (HC0.out.1.kept HI.out.kp) (HC0.out.2.1.kept HI.out.kp)).mono ?_
      rintro e w4 ⟨hkt,rfl⟩
      obtain ⟨tv,htv⟩:∃ t,t = bs (tx (y0,y1)):=⟨_,rfl⟩
      rw [← htv]
      have Htv:=hid' htv
      have HI:=hid' (HI.out.kept hkt)
      have hNr:=hNr.kept hkt
      clear htv hkt
      clear hNr
      have KA:=(Kept.refl w4).alloc (.cells #[.string tv] 9)
      go_wp2_with (at_builtin; refine wpList_append_lies _ rfl (.tmp 38) (.tmp 41) 22 rfl (w.heap.size + 1) 9 i0 (.string ByteArray.empty) 1 16 X.und_strs hi hz0 hz1 hz2 rfl (by decide) u4 wk.length (strs wk) rfl (by exact (HI.out.kept KA).own) ⟨w4.heap.size,0,none⟩ 1 1 [.string tv] rfl rfl (X.cell_new w4 _ _) (fun u hu => by simp at hu; subst hu; rfl) (by omega) (by have:=HLW.out; unfold maxLen; omega) (by have:=HLW.out; omega) (by have:=HI.out.kp.size; have:=HI.out.row.lt; have:=HI.out.le; have:=HP.out; simp; omega) _ rfl ?_)
      intro g4 cap4 W4 own4 hg4 hgg _
      have HI:=hid' (HI.out.add (news:=[tv.data.toList]) KA own4 rfl hg4)
      clear own4 hg4 hgg KA
      go_wp2_with fail
      go_roundw
      case rel =>
       refine ⟨j + 1,by omega,by go_num,?_⟩
       rw [mw,HY.out,← bs_list (tx (y0,y1)),← Htv.out,if_pos HJ0.out,List.append_nil,← List.append_assoc,← HWK.out]
       exact HI.out
      case measure => show n - ((j:Int) + 1).toNat < n - (j:Int).toNat; omega
     ·
      obtain ⟨i,rfl⟩:∃ i,j = i + 1:=⟨j - 1,by omega⟩
      have hwr:IntKind.i64.wrap ((i:Int) + 1 - 1) = (i:Int):=by rw [IntKind.wrap_i64]; omega
      have hip:(0:Int) < (i:Int) + 1:=by omega
      have hil:i < n2:=by have h1:=HOK.out.2.2.1; have h2:=HLN.out; omega
      have hili:(i:Int) < (n2:Int):=by omega
      obtain ⟨ao2,cc2,hv2,hx2⟩:=HC0.out.2.2.2.kept HI.out.kp
      simp only [Value.slice.injEq] at hv2
      obtain ⟨rfl,hn20,rfl⟩:=hv2
      clear hn20
      have hnw2:n2 = vs.length:=HLN.out.2
      obtain ⟨b2,o2,rfl,hb2,hcl2⟩:=hx2 (by omega)
      obtain ⟨r0,r1⟩:=hcl2 i (by omega)
      generalize hz:vs.getD i (0,0) = z at r0 r1
      obtain ⟨z0,z1⟩:=z
      simp only at r0 r1
      have HZ:=hid' hz
      have f3:=HI.out.row.cell 3 (.slice (some ⟨b2,o2,none⟩) n2 c2)
      clear hx2 hcl2 hnw2 hz hj0
      go_wp2_with fail
      generalize wr.alloc (.cells #[.int .i64 y0,.int .i64 y1] 26) = W1 at HI hNr r0 r1 f3 ⊢
      obtain ⟨qn,hqn⟩:∃ q,q = wr.heap.size:=⟨_,rfl⟩
      rw [← hqn] at hNr ⊢
      clear kN hqn hbw
      refine (ctext_any z0 z1 _ (HC0.out.1.kept HI.out.kp) (HC0.out.2.1.kept HI.out.kp)).mono ?_
      rintro e w4 ⟨hkt,rfl⟩
      obtain ⟨tz,htz⟩:∃ t,t = bs (tx (z0,z1)):=⟨_,rfl⟩
      rw [← htz]
      have Htz:=hid' htz
      have HI:=hid' (HI.out.kept hkt)
      have hNr:=hNr.kept hkt
      clear htz hkt
      clear r0 r1 f3
      have KA:=(Kept.refl w4).alloc (.cells #[.string tz] 9)
      go_wp2_with (at_builtin; refine wpList_append_lies _ rfl (.tmp 28) (.tmp 36) 22 rfl (w.heap.size + 1) 9 i0 (.string ByteArray.empty) 1 16 X.und_strs hi hz0 hz1 hz2 rfl (by decide) u4 wk.length (strs wk) rfl (by exact (HI.out.kept KA).own) ⟨w4.heap.size,0,none⟩ 1 1 [.string tz] rfl rfl (X.cell_new w4 _ _) (fun u hu => by simp at hu; subst hu; rfl) (by omega) (by have:=HLW.out; unfold maxLen; omega) (by have:=HLW.out; omega) (by have:=HI.out.kp.size; have:=HI.out.row.lt; have:=HI.out.le; have:=HP.out; simp; omega) _ rfl ?_)
      intro g4 cap4 W4 own4 hg4 hgg _
      have hNr:=hNr.kept KA
      have hqo:u4.ownBlock ≠ some qn:=own_row (HI.out.kept KA).own hNr (by decide)
      have hNr:Q.Row2 26 W4 qn (.int .i64 y0) (.int .i64 y1):=World.rowIs.of_block hNr (hg4.block qn hNr.lt (fun e => hqo e.symm))
      have HI:=hid' (HI.out.add (news:=[tz.data.toList]) KA own4 rfl hg4)
      have n0:=hNr.c0
      have n1:=hNr.c1
      clear own4 hg4 hgg KA hqo
      have HLW:=hid' (show (wk ++ [tz.data.toList]).length≤200 by rw [List.length_append]; have:=HLW.out; simp only [List.length_cons,List.length_nil]; omega)
      go_wp2_with fail
      refine (ctext_any y0 y1 _ (HC0.out.1.kept HI.out.kp) (HC0.out.2.1.kept HI.out.kp)).mono ?_
      rintro e w5 ⟨hkt,rfl⟩
      obtain ⟨tv,htv⟩:∃ t,t = bs (tx (y0,y1)):=⟨_,rfl⟩
      rw [← htv]
      have Htv:=hid' htv
      have HI:=hid' (HI.out.kept hkt)
      have hNr:=hNr.kept hkt
      clear htv hkt
      clear hNr n0 n1
      have KA:=(Kept.refl w5).alloc (.cells #[.string tv] 9)
      go_wp2_with (at_builtin; refine wpList_append_lies _ rfl (.tmp 38) (.tmp 41) 22 rfl (w.heap.size + 1) 9 i0 (.string ByteArray.empty) 1 16 X.und_strs hi hz0 hz1 hz2 rfl (by decide) (.slice (some ⟨g4,0,none⟩) (wk.length + 1) cap4) (wk ++ [tz.data.toList]).length (strs (wk ++ [tz.data.toList])) rfl (by exact (HI.out.kept KA).own) ⟨w5.heap.size,0,none⟩ 1 1 [.string tv] rfl rfl (X.cell_new w5 _ _) (fun u hu => by simp at hu; subst hu; rfl) (by omega) (by have:=HLW.out; unfold maxLen; omega) (by have:=HLW.out; omega) (by have:=HI.out.kp.size; have:=HI.out.row.lt; have:=HI.out.le; have:=HP.out; simp; omega) _ rfl ?_)
      intro g5 cap5 W5 own4 hg4 hgg _
      have HI:=hid' (HI.out.add (news:=[tv.data.toList]) KA own4 (by simp) hg4)
      clear own4 hg4 hgg KA
      go_wp2_with fail
      go_roundw
      case rel =>
       refine ⟨i + 1 + 1,by omega,by go_num,?_⟩
       rw [mw,HY.out,← bs_list (tx (y0,y1)),← Htv.out,if_neg (by omega),show i + 1 - 1 = i from rfl,HZ.out,← bs_list (tx (z0,z1)),← Htz.out,← List.append_assoc,← List.append_assoc,← HWK.out]
       exact HI.out
      case measure => show n - ((i:Int) + 1 + 1).toNat < n - ((i:Int) + 1).toNat; omega
    ·
     have hji:¬ (j:Int) < (n:Int):=by omega
     obtain rfl:j = n:=by omega
     have HMW:=hid' (show mwords ⟨s.data.toList,k,gs,vs⟩ = [[46,109,111,100,101,108],s.data.toList,[k.toNat.toUInt8]] ++ mw gs vs j by unfold mwords; rw [← HLN.out.1])
     go_wp2_with fail
     go_ret2
     exact ⟨HI.out.kp,.inr ⟨HOK.out.1,_,rfl,by rw [HMW.out]; exact own_mono HI.out.own (Nat.le_succ _)⟩⟩
end V
end Go.Proofs.YtembglnonhlnkaaGreatDoor

namespace Go.Proofs.YtembglnonhlnkaaGreatDoor
open Go.RowKit
namespace V
open Q (hid')
open X (bs OwnS RS strs bs_list bs_size)
theorem wpList_src {P:Program} {w:World} {ops:Array Oper} {rest:List Oper} {o:Oper} {a:Act} {Q:Exit→Act→World→Prop} (hgd:o.guard = none) (s x:Operand) (t:TypeId)
  (ho:o.op = .call { callee:=.builtin .append,args:=#[s,x],argTypes:=#[t,t] })
  (base:Nat) (e:TypeId) (i:TypeInfo) (zv:Value) (size bytes:Nat) (ht:P.underlying t = some (.slice e)) (hi:P.info? e = some i) (hz:i.zero = some zv)
  (hsize:i.size = size) (hby:i.bytes = bytes) (hzs:zv.cells.size = size) (hsz:0 < size)
  (g0:Nat) (hs:a.eval s = .slice (some ⟨g0,0,none⟩) 0 0) (hown:w.ownsRow base e size (.slice (some ⟨g0,0,none⟩) 0 0) 0 [])
  (ao:Option Addr) (m c:Nat) (news:List Value) (hx:a.eval x = .slice ao m c) (hl:news.length = m * size) (hnews:0 < m→∃ ad,ao = some ad∧∀ j u,news[j]? = some u→w.cell? (ad.add j) = some u) (h1:∀ u ∈ news,u.oneCell' = true)
  (h63:m≤maxLen) (hbytes:m * bytes≤140737488355328) (hbase:base≤w.heap.size)
  (h:∀ g cap w',w'.ownsRow base e size (.slice (some ⟨g,0,none⟩) m cap) m news→w.grownBy w' (some g0)→wpList P ops Q rest (a.put o.dst (.slice (some ⟨g,0,none⟩) m cap)) w'):wpList P ops Q (o :: rest) a w:=by
 by_cases hm:0 < m
 ·
  obtain ⟨ad,rfl,hn⟩:=hnews hm
  exact wpList_append_lies w hgd s x t ho base e i zv size bytes ht hi hz hsize hby hzs hsz _ 0 [] hs hown ad m c news hx hl hn h1 hm (by omega) (by rw [Nat.zero_add]; exact hbytes) hbase _ rfl (fun g cap w' h2 h3 _ _ => by
   have:=h g cap w' (by simpa using h2) h3
   rw [Nat.zero_add]
   exact this)
 ·
  obtain rfl:m = 0:=by omega
  have hn0:news = []:=List.eq_nil_of_length_eq_zero (by simpa using hl)
  subst hn0
  have hr:(Builtin.append_ #[t,t] o.type #[.slice (some ⟨g0,0,none⟩) 0 0,.slice ao 0 c]).run P w = .ok (.slice (some ⟨g0,0,none⟩) 0 0) w:=by
   cases ao <;> simp [Builtin.append_,run_underlying ht,sizeOf,typeInfo,hi,Builtin.lenOf,Builtin.firstCells,loadCells,loadCellsFrom,storeCells]
  refine wpList_plain hgd fun K hK => ?_
  unfold Oper.wp execOp
  simp only [ho,resolve,invoke,builtin,Sem.run_bind,Sem.run_pure,Result.andThen_ok,List.map_toArray,List.map_cons,List.map_nil,hs,hx,hr]
  exact hK _ _ (h g0 0 w hown ⟨rfl,rfl,rfl,Nat.le_refl _,fun _ _ _ => rfl⟩)
theorem own_none (t:TypeId) (sz:Nat) (w:World) (B:Nat) (hB:B≤w.heap.size):(w.alloc (Obj.cells #[] t)).ownsRow B t sz (.slice (some ⟨w.heap.size,0,none⟩) 0 0) 0 []:=by
 refine ⟨by simp,.inr ⟨w.heap.size,0,#[],rfl,hB,?_,Nat.le_refl _,by unfold maxLen; omega,by simp,by simp⟩⟩
 show (w.heap.push _)[w.heap.size]? = _
 simp
theorem own_cap' {B:Nat} {w:World} {g n cap:Nat} {ws:List (List UInt8)} (h:OwnS B w (.slice (some ⟨g,0,none⟩) n cap) ws):ws.length≤cap∧cap≤9223372036854775807:=by
 obtain ⟨_,⟨h2,_⟩ | ⟨_,_,_,h2,_,_,hn,hm,_⟩⟩:=h
 ·
  cases h2
 ·
  simp only [Value.slice.injEq] at h2
  obtain ⟨_,_,rfl⟩:=h2
  exact ⟨hn,hm⟩
def LentW (B:Nat) (w:World) (v:Value) (ws:List (List UInt8)):Prop:=∃ g cap,v = .slice (some ⟨g,0,none⟩) ws.length cap∧OwnS B w (.slice (some ⟨g,0,none⟩) (ws.length + 1) cap) (ws ++ [[33]])
theorem strs_src {w:World} {ao:Option Addr} {n c:Nat} {ws:List (List UInt8)} (h:RS w (.slice ao n c) ws):0 < n→∃ ad,ao = some ad∧∀ j u,(strs ws)[j]? = some u→w.cell? (ad.add j) = some u:=by
 intro h0
 obtain ⟨ao',c',hv,hx⟩:=h
 simp only [Value.slice.injEq] at hv
 obtain ⟨rfl,rfl,rfl⟩:=hv
 obtain ⟨b,off,rfl,hb,hc⟩:=hx h0
 refine ⟨⟨b,off,none⟩,rfl,fun j u hj => ?_⟩
 have hl:j < ws.length:=by
  have:=(List.getElem?_eq_some_iff.1 hj).1
  rw [X.strs_len] at this
  omega
 rw [X.strs_at ws j hl] at hj
 have e:(⟨b,off,none⟩:Addr).add j = ⟨b,off + j,none⟩:=by
  unfold Addr.add
  by_cases hj0:j = 0 <;> simp [hj0]
 rw [e,hc j hl]
 exact hj
set_option maxRecDepth 100000 in
set_option maxHeartbeats 4000000 in
theorem lent7_any (ao:Option Addr) (n c:Nat) (ws:List (List UInt8)) (w:World) (h:RS w (.slice ao n c) ws) (hl:(n + 200) * 16≤140737488355328) :
  Calls Tryz.prog 10 #[.slice ao n c] w fun e w' => Kept w w'∧∃ v,e = .returned v∧LentW w.heap.size w' v ws:=by
 have hn:n = ws.length:=rs_len h
 obtain ⟨i0,hi,hz0,hz1,hz2⟩:=info_parts X.info_str
 have HN:=hid' hn
 have HR:=hid' h
 have hmx:n + 1≤9223372036854775807:=by omega
 clear hn h
 go_enter Tryz.func10,Tryz.ntmps10
 have HO:=hid' (own_none 9 1 w w.heap.size (Nat.le_refl _))
 have HK:=hid' ((Kept.refl w).alloc (Obj.cells #[] 9))
 go_wp2_with (at_builtin; refine wpList_src rfl (.tmp 3) (.tmp 4) 22 rfl w.heap.size 9 i0 (.string ByteArray.empty) 1 16 X.und_strs hi hz0 hz1 hz2 rfl (by decide) w.heap.size rfl HO.out ao n c (strs ws) rfl (by rw [X.strs_len,HN.out]) (strs_src (HR.out.kept HK.out)) (X.strs_one ws) (by unfold maxLen; omega) (by omega) (by simp) ?_)
 intro g cap w1 own1 hg1
 have HK1:=hid' (show Kept w w1 from Below.grown (B:=w.heap.size) HK.out hg1 HK.out.size (fun k hk => by simp at hk; omega))
 clear hg1
 have Hm:=X.cell_new w1 (.string ⟨#[33]⟩) 9
 have KA:=(Kept.refl w1).alloc (.cells #[.string ⟨#[33]⟩] 9)
 have own2:=own_kept own1 (fun b hb => KA.block b (own1.lt b hb).2)
 go_wp2_with (at_builtin; refine wpList_append_lies _ rfl (.tmp 5) (.tmp 6) 22 rfl w.heap.size 9 i0 (.string ByteArray.empty) 1 16 X.und_strs hi hz0 hz1 hz2 rfl (by decide) (.slice (some ⟨g,0,none⟩) n cap) n (strs ws) rfl own2 ⟨w1.heap.size,0,none⟩ 1 1 [.string ⟨#[33]⟩] rfl rfl Hm (fun u hu => by simp at hu; subst hu; rfl) (by omega) (by unfold maxLen; omega) (by omega) (by have:=HK1.out.size; simp; omega) _ rfl ?_)
 intro g4 cap4 W4 own4 hg4 _ _
 have HB:=hid' (And.intro own4 (show Kept w W4 from Below.grown (B:=w.heap.size) (HK1.out.trans KA) hg4 (Nat.le_trans HK1.out.size KA.size) (fun k hk => (own2.lt k hk).1)))
 have hc4:n + 1≤cap4:=by
  obtain ⟨_,⟨h1,_⟩ | ⟨_,_,_,h1,_,_,h2,_⟩⟩:=own4
  ·
   cases h1
  ·
   simp only [Value.slice.injEq] at h1; omega
 have hc5:cap4≤9223372036854775807:=by
  obtain ⟨_,⟨h1,_⟩ | ⟨_,_,_,h1,_,_,_,h2,_⟩⟩:=own4
  ·
   cases h1
  ·
   simp only [Value.slice.injEq] at h1; unfold maxLen at h2; omega
 clear own4 hg4 own1 own2 Hm KA
 go_wp2_with fail
 go_ret
 refine ⟨HB.out.2,_,rfl,g4,cap4,by rw [← HN.out]; rfl,?_⟩
 have:=HB.out.1
 unfold OwnS
 rw [List.length_append,List.length_singleton,← HN.out,X.strs_app]
 exact this
theorem LentW.rs {B:Nat} {w:World} {v:Value} {ws:List (List UInt8)} (h:LentW B w v ws):RS w v ws:=by
 obtain ⟨g,cap,rfl,h⟩:=h
 obtain ⟨g',cap',e,_,hg,_,hc,_⟩:=h.read (by simp)
 simp only [Value.slice.injEq,Option.some.injEq,Addr.mk.injEq] at e
 obtain ⟨⟨rfl,_⟩,_,rfl⟩:=e
 refine ⟨_,_,rfl,fun h0 => ⟨g,0,rfl,hg,fun j hj => ?_⟩⟩
 rw [Nat.zero_add,hc j (by rw [List.length_append]; omega)]
 congr 3
 rw [List.getD_eq_getElem?_getD,List.getD_eq_getElem?_getD,List.getElem?_append_left hj]
theorem LentW.kept {B:Nat} {w w':World} {v:Value} {ws:List (List UInt8)} (h:LentW B w v ws) (k:Kept w w'):LentW B w' v ws:=by
 obtain ⟨g,cap,rfl,h⟩:=h
 exact ⟨g,cap,rfl,h.kept k⟩
set_option maxRecDepth 100000 in
set_option maxHeartbeats 4000000 in
theorem whole7_any (B:Nat) (v:Value) (ao:Option Addr) (n c:Nat) (ws:List (List UInt8)) (w:World) (hv:LentW B w v ws) (h:RS w (.slice ao n c) ws) (hl:n≤1000000000000000000) :
  Calls Tryz.prog 14 #[v,.slice ao n c] w fun e w' => Kept w w'∧e = .returned (.bool true):=by
 have hn:n = ws.length:=rs_len h
 have htx:=X.texts_any v (.slice ao n c) ws ws w hv.rs h (by omega)
 rw [decide_eq_true rfl] at htx
 obtain ⟨g,cap,rfl,ho⟩:=hv
 have hc:=own_cap' ho
 have HO:=hid' ho
 rw [← hn] at htx ⊢
 have HN:=hid' hn
 rw [List.length_append,List.length_singleton,← hn] at hc
 clear h hn ho
 go_enter Tryz.func14,Tryz.ntmps14
 go_wp2_with fail
 refine htx.mono ?_
 rintro e w1 ⟨hk,rfl⟩
 have q:=(HO.out.kept hk).read (by simp)
 obtain ⟨g',cap',e,_,hg,_,hcell,_⟩:=q
 simp only [Value.slice.injEq,Option.some.injEq,Addr.mk.injEq] at e
 obtain ⟨⟨rfl,_⟩,_,rfl⟩:=e
 have q:=hcell n (by rw [List.length_append,HN.out]; simp)
 have hq:(ws ++ [[33]]).getD n [] = ([33]:List UInt8):=by rw [List.getD_eq_getElem?_getD,List.getElem?_append_right (by rw [HN.out]; exact Nat.le_refl _),HN.out,Nat.sub_self]; rfl
 rw [hq] at q
 have e33:(bs [33]).toList = [33]:=by rw [ByteArray.toList_eq,bs_list]
 have e33':((bs [33]).toList == [33]) = true:=by rw [e33]; rfl
 generalize bs [33] = t33 at q e33 e33'
 clear hq
 have HK:=hid' hk
 have h1:n + 1≤cap:=hc.1
 have h2:cap≤9223372036854775807:=hc.2
 clear hk hcell hg hc htx
 go_wp2_with fail
 go_ret
 exact ⟨HK.out,rfl⟩
end V
end Go.Proofs.YtembglnonhlnkaaGreatDoor

namespace Go.Proofs.YtembglnonhlnkaaGreatDoor
open Go.RowKit
namespace V
open Q (parseOf okN textOf)
theorem readM_ok {ws:List (List UInt8)} {m:Md} (h:readM ws = .ok m):okM m.name m.kind m.gs m.vs = true:=by
 unfold readM at h
 split at h
 ·
  cases h
 ·
  split at h
  ·
   cases h
  ·
   split at h
   ·
    rename_i ho; cases h; exact ho
   ·
    cases h
end V
end Go.Proofs.YtembglnonhlnkaaGreatDoor

namespace Go.Proofs.YtembglnonhlnkaaGreatDoor
open Go.RowKit
namespace V
open Q (hid' parseOf Lett ErrV Tab okN textOf)
open X (bs OwnS RS strs bs_list bs_size)
def WrIs (B:Nat) (w:World) (e:Ending):Option (List (List UInt8))→Prop
 | none => e = .returned (.tuple #[.slice none 0 0,.int .i64 70])
 | some ws => ∃ u,e = .returned (.tuple #[u,.int .i64 0])∧OwnS B w u ws
def writeB (c:Cd) (ws:List (List UInt8)):Except Int Cd→Option (List (List UInt8))
 | .ok d => if d = c then some ws else none
 | .error _ => none
theorem writeC_dev {c:Cd} (h:devB c.name = true):writeC c = writeB c (cwords c) (readC (cwords c)):=by
 unfold writeC
 rw [if_pos h]
 cases readC (cwords c) <;> rfl
theorem len_max {B:Nat} {w:World} {e:TypeId} {sz n:Nat} {v:Value} {xs:List Value} (h:w.ownsRow B e sz v n xs):n≤9223372036854775807:=by
 obtain ⟨_,⟨_,h3⟩ | ⟨g,cap,cur,h2,_,_,hn,hm,_⟩⟩:=h
 ·
  omega
 ·
  exact Nat.le_trans hn hm
theorem own_cap {B:Nat} {w:World} {v:Value} {ws:List (List UInt8)} (h:OwnS B w v ws):∃ ao cap,v = .slice ao ws.length cap∧ws.length≤cap∧cap≤9223372036854775807:=by
 obtain ⟨_,⟨h2,h3⟩ | ⟨g,cap,cur,h2,_,_,hn,hm,_⟩⟩:=h
 ·
  exact ⟨none,0,by rw [h2,h3],by omega,by omega⟩
 ·
  exact ⟨_,_,h2,hn,hm⟩
set_option maxRecDepth 100000 in
set_option maxHeartbeats 8000000 in
theorem write_plain (a1 a2 a3:Option Addr) (n1 k1 n2 k2 n3 k3:Nat) (c:Cd) (w:World) (hL:Lett w) (hE:ErrV w) (hT:Tab w) (hc:CdR w a1 n1 k1 a2 n2 k2 a3 n3 k3 c) (hl:(n1 + 200) * 16≤140737488355328) (hw:waveC (c.name.getD 0 0) = false) (hs:∀ x ∈ cwords c,x.length≤9223372036854775807) (hsn:c.name.length≤9223372036854775807) :
  Calls Tryz.prog 22 #[cdV c (.slice a1 n1 k1) (.slice a2 n2 k2) (.slice a3 n3 k3)] w fun e w' => Kept w w'∧WrIs w.heap.size w' e (writeC c):=by
 have HC:=hid' (And.intro hc (And.intro hL (And.intro hT (And.intro hE (And.intro hw hs)))))
 obtain ⟨r,hr⟩:∃ r,r = writeC c:=⟨_,rfl⟩
 rw [← hr]
 have HR:=hid' hr
 have hdev:=fun V => cdev_any (bs c.name) V (by rw [bs_size]; exact hsn)
 rw [bs_list] at hdev
 have hcw:=fun V (K:Kept w V) (hh:0 < c.name.length) => cardWords_plain a1 a2 a3 n1 k1 n2 k2 n3 k3 c V (hL.kept K) (hT.kept K) (hc.kept K) hh hl hw
 clear hr hc hL hE hT hw hs hsn
 obtain ⟨cn,cnd,cr,⟨cm,cx⟩,ckd,cvs,css⟩:=c
 unfold cdV at hcw ⊢
 simp only at hdev hcw ⊢
 obtain ⟨s1,hs1⟩:∃ s,s = bs cn:=⟨_,rfl⟩
 obtain ⟨s3,hs3⟩:∃ s,s = bs cr:=⟨_,rfl⟩
 rw [← hs1,← hs3] at hcw ⊢
 rw [← hs1] at hdev
 have HE:=hid' (And.intro hs1 hs3)
 clear hs1 hs3
 cases hd:devB cn
 ·
  rw [hd] at hdev
  have HF:=hid' (show r = none by rw [HR.out]; unfold writeC; rw [if_neg (by rw [hd]; decide)])
  clear hcw
  go_enter Tryz.func22,Tryz.ntmps22
  go_wp2_with fail
  refine (hdev _).mono ?_
  rintro e w1 ⟨rfl,rfl⟩
  go_wp2_with fail
  go_ret2
  exact ⟨(Kept.refl _).alloc _,by rw [HF.out]; rfl⟩
 ·
  rw [hd] at hdev
  have hh:0 < cn.length:=by
   have h1:=dev_pos (s:=bs cn) (by rw [bs_list]; exact hd)
   rwa [bs_size] at h1
  have HD:=hid' hd
  have hcw2:=fun V (K:Kept w V) => hcw V K hh
  clear hcw hd hh
  go_enter Tryz.func22,Tryz.ntmps22
  go_wp2_with fail
  refine (hdev _).mono ?_
  rintro e w1 ⟨rfl,rfl⟩
  go_wp2_with fail
  have hK:=(Kept.refl w).alloc (.cells #[.string s1,.slice a1 n1 k1,.string s3,.int .i64 cm,.int .i64 cx,.int .i64 ckd,.slice a2 n2 k2,.slice a3 n3 k3] 32)
  have hA:=RowL.alloc 32 w [.string s1,.slice a1 n1 k1,.string s3,.int .i64 cm,.int .i64 cx,.int .i64 ckd,.slice a2 n2 k2,.slice a3 n3 k3]
  generalize w.alloc (.cells #[.string s1,.slice a1 n1 k1,.string s3,.int .i64 cm,.int .i64 cx,.int .i64 ckd,.slice a2 n2 k2,.slice a3 n3 k3] 32) = W0 at hK hA ⊢
  obtain ⟨p,hp⟩:∃ q,q = w.heap.size:=⟨_,rfl⟩
  rw [← hp] at hA ⊢
  clear hp
  refine (hcw2 _ hK).mono ?_
  rintro e w2 ⟨hk2,u,rfl,ou⟩
  obtain ⟨ao,cap,rfl,hcap,hcap2⟩:=own_cap ou
  have HW:=hid' (And.intro (hK.trans hk2) (And.intro (hA.kept hk2) (And.intro (own_mono ou hK.size) ou)))
  have hrd:=readC_any ao (cwords ⟨cn,cnd,cr,(cm,cx),ckd,cvs,css⟩).length cap (cwords ⟨cn,cnd,cr,(cm,cx),ckd,cvs,css⟩) w2 (HC.out.2.1.kept HW.out.1) (HC.out.2.2.2.1.kept HW.out.1) (X.OwnS.rs ou) hcap hcap2 HC.out.2.2.2.2.2
  have HR2:=hid' (show r = writeB ⟨cn,cnd,cr,(cm,cx),ckd,cvs,css⟩ (cwords ⟨cn,cnd,cr,(cm,cx),ckd,cvs,css⟩) (readC (cwords ⟨cn,cnd,cr,(cm,cx),ckd,cvs,css⟩)) from HR.out.trans (writeC_dev HD.out))
  generalize hws:cwords ⟨cn,cnd,cr,(cm,cx),ckd,cvs,css⟩ = ws at hrd HW HR2 ⊢
  obtain ⟨n,hn⟩:∃ n,n = ws.length:=⟨_,rfl⟩
  rw [← hn] at hrd HW ⊢
  have HNN:=hid' hn
  generalize hrc:readC ws = rc at hrd HR2
  clear hK hA hk2 ou hcw2 hdev hws hn hcap hcap2 hrc
  go_wp2_with fail
  refine hrd.mono ?_
  rintro e w3 ⟨hk3,hres⟩
  clear hrd
  have HW:=hid' (And.intro (HW.out.1.trans hk3) (And.intro (HW.out.2.1.kept hk3) (own_kept HW.out.2.2.1 (fun b hb => hk3.block b (HW.out.2.2.1.lt b hb).2))))
  clear hk3
  cases rc with
  | error x =>
   obtain ⟨rfl,hx0⟩:=hres
   have hx0':(x == 0) = false:=by simpa using hx0
   unfold zeroCd
   have HF:=hid' (show r = none from HR2.out)
   go_wp2_with fail
   go_ret2
   exact ⟨HW.out.1.alloc _,by rw [HF.out]; rfl⟩
  | ok d =>
   obtain ⟨v,rfl,nv,xv,sv,rfl,o1,o2,o3⟩:=hres
   obtain ⟨b1,l1,rfl⟩:=own_shape o1
   obtain ⟨b2,l2,rfl⟩:=own_shape o2
   obtain ⟨b3,l3,rfl⟩:=own_shape o3
   have hsm:=fun V (K:Kept w3 V) => csame_any b1 b2 b3 a1 a2 a3 d.nodes.length l1 d.vals.length l2 d.steps.length l3 n1 k1 n2 k2 n3 k3 d ⟨cn,cnd,cr,(cm,cx),ckd,cvs,css⟩ V ⟨(X.OwnS.rs o1).kept K,(OwnN.nsl o2).kept K,(OwnI.isl o3).kept K⟩ (HC.out.1.kept (HW.out.1.trans K)) (len_max o1) (len_max o2) (len_max o3)
   have HR3:=hid' (show r = if d = ⟨cn,cnd,cr,(cm,cx),ckd,cvs,css⟩ then some ws else none from HR2.out)
   generalize hdc:decide (d = ⟨cn,cnd,cr,(cm,cx),ckd,cvs,css⟩) = bb at hsm
   have HDC:=hid' hdc
   clear hdc o1 o2 o3
   obtain ⟨dn,dnd,dr,⟨dm,dx⟩,dkd,dvs,dss⟩:=d
   unfold cdV at hsm ⊢
   simp only at hsm ⊢
   rw [← HE.out.1,← HE.out.2] at hsm
   generalize bs dn = t1 at hsm ⊢
   generalize bs dr = t3 at hsm ⊢
   generalize dnd.length = d1 at hsm ⊢
   generalize dvs.length = d2 at hsm ⊢
   generalize dss.length = d3 at hsm ⊢
   have kB:=(Kept.refl w3).alloc (.cells #[.string t1,.slice b1 d1 l1,.string t3,.int .i64 dm,.int .i64 dx,.int .i64 dkd,.slice b2 d2 l2,.slice b3 d3 l3] 32)
   have hA:=HW.out.2.1.kept kB
   have g0:=hA.cell 0 (.string s1)
   have g1:=hA.cell 1 (.slice a1 n1 k1)
   have g2:=hA.cell 2 (.string s3)
   have g3:=hA.cell 3 (.int .i64 cm)
   have g4:=hA.cell 4 (.int .i64 cx)
   have g5:=hA.cell 5 (.int .i64 ckd)
   have g6:=hA.cell 6 (.slice a2 n2 k2)
   have g7:=hA.cell 7 (.slice a3 n3 k3)
   clear hA
   cases bb
   ·
    have HF:=hid' (show r = none by rw [HR3.out,if_neg (of_decide_eq_false HDC.out)])
    go_wp2_with fail
    refine (hsm _ kB).mono ?_
    rintro e w4 ⟨hk4,rfl⟩
    have HK:=hid' (HW.out.1.trans (kB.trans hk4))
    clear hsm kB hk4 g0 g1 g2 g3 g4 g5 g6 g7
    go_wp2_with fail
    go_ret2
    exact ⟨HK.out,by rw [HF.out]; rfl⟩
   ·
    have HF:=hid' (show r = some ws by rw [HR3.out,if_pos (of_decide_eq_true HDC.out)])
    go_wp2_with fail
    refine (hsm _ kB).mono ?_
    rintro e w4 ⟨hk4,rfl⟩
    have HK:=hid' (And.intro (HW.out.1.trans (kB.trans hk4)) (own_kept HW.out.2.2 (fun b hb => (kB.trans hk4).block b (HW.out.2.2.lt b hb).2)))
    clear hsm kB hk4 g0 g1 g2 g3 g4 g5 g6 g7
    go_wp2_with fail
    go_ret2
    exact ⟨HK.out.1,by rw [HF.out]; exact ⟨_,rfl,by unfold OwnS; rw [← HNN.out]; exact HK.out.2⟩⟩
end V
end Go.Proofs.YtembglnonhlnkaaGreatDoor

namespace Go.Proofs.YtembglnonhlnkaaGreatDoor
open Go.RowKit
namespace V
open Q (hid' parseOf Lett ErrV Tab okN textOf)
open X (bs OwnS RS strs bs_list bs_size)
theorem rs_lit (w:World) (ws:List (List UInt8)) (n:Nat) (hn:n = ws.length):RS (w.alloc (.cells (strs ws).toArray 9)) (.slice (some ⟨w.heap.size,0,none⟩) n n) ws:=by
 subst hn
 refine ⟨_,_,rfl,fun _ => ⟨w.heap.size,0,rfl,by simp,fun j hj => ?_⟩⟩
 have hr:=World.rowIs_alloc w (strs ws).toArray 9 (fun i => .string (bs (ws.getD i []))) (fun i hi => by
  have hi':i < ws.length:=by simpa [strs] using hi
  have:=X.strs_at ws i hi'
  simpa using this)
 rw [Nat.zero_add]
 exact hr.cell (by simpa [strs] using hj)
def awW:List (List UInt8):=[[114,49],[97],[48],[52,46,55,107]]
def awC:Cd:=⟨[114,49],[[97],[48]],[],(47,2),0,[],[]⟩
def awT:List (List UInt8):=[[114,49],[97],[48],[52,55,48,48]]
def awM:List (List UInt8):=[[46,109,111,100,101,108],[100,49],[100],[49,117],[48,46,55],[49,48,48,109]]
def awD:Md:=⟨[100,49],100,[(1,-6),(1,-1)],[(7,-1)]⟩
theorem aw1:readC awW = .ok awC:=by kernel_rfl
theorem aw2:writeC awC = some awT:=by kernel_rfl
theorem aw3:readM awM = .ok awD:=by kernel_rfl
theorem aw4:cwords awC = awT:=by kernel_rfl
set_option maxRecDepth 100000 in
set_option maxHeartbeats 8000000 in
theorem awake7_any (w:World) (hL:Lett w) (hE:ErrV w) (hT:Tab w):Calls Tryz.prog 9 #[] w fun e w' => Kept w w'∧e = .returned (.bool true):=by
 have HG:=hid' (And.intro hL (And.intro hE hT))
 clear hL hE hT
 go_enter Tryz.func9,Tryz.ntmps9
 go_wp2_with fail
 have hk0:=(Kept.refl w).alloc (.cells (strs awW).toArray 9)
 have hrs:=rs_lit w awW 4 rfl
 have hrd:=readC_any (some ⟨w.heap.size,0,none⟩) 4 4 awW _ (HG.out.1.kept hk0) (HG.out.2.1.kept hk0) hrs (Nat.le_refl _) (by omega) (by decide)
 rw [aw1] at hrd
 refine hrd.mono ?_
 rintro e w1 ⟨hk1,hres⟩
 obtain ⟨v,rfl,nv,xv,sv,rfl,o1,o2,o3⟩:=hres
 have HK:=hid' (hk0.trans hk1)
 clear hk0 hk1 hrs hrd
 obtain ⟨b1,l1,rfl⟩:=own_shape o1
 obtain ⟨b2,l2,rfl⟩:=own_shape o2
 obtain ⟨b3,l3,rfl⟩:=own_shape o3
 have HO:=hid' (show CdR w1 b1 2 l1 b2 0 l2 b3 0 l3 awC from ⟨X.OwnS.rs o1,OwnN.nsl o2,OwnI.isl o3⟩)
 clear o1 o2 o3
 have e1:cdV awC (.slice b1 awC.nodes.length l1) (.slice b2 awC.vals.length l2) (.slice b3 awC.steps.length l3) = .agg #[.string ⟨#[114,49]⟩,.slice b1 2 l1,.string ⟨#[]⟩,.int .i64 47,.int .i64 2,.int .i64 0,.slice b2 0 l2,.slice b3 0 l3]:=rfl
 rw [e1]
 clear e1
 go_wp2_with fail
 have hk2:=(Kept.refl w1).alloc (.cells #[.string ⟨#[114,49]⟩,.slice b1 2 l1,.string ⟨#[]⟩,.int .i64 47,.int .i64 2,.int .i64 0,.slice b2 0 l2,.slice b3 0 l3] 32)
 have hC:=RowL.alloc 32 w1 [.string ⟨#[114,49]⟩,.slice b1 2 l1,.string ⟨#[]⟩,.int .i64 47,.int .i64 2,.int .i64 0,.slice b2 0 l2,.slice b3 0 l3]
 have hwr:=write_plain b1 b2 b3 2 l1 0 l2 0 l3 awC _ (HG.out.1.kept (HK.out.trans hk2)) (HG.out.2.1.kept (HK.out.trans hk2)) (HG.out.2.2.kept (HK.out.trans hk2)) (HO.out.kept hk2) (by omega) (by decide) (by rw [aw4]; decide) (by decide)
 rw [aw2] at hwr
 have e2:cdV awC (.slice b1 2 l1) (.slice b2 0 l2) (.slice b3 0 l3) = .agg #[.string ⟨#[114,49]⟩,.slice b1 2 l1,.string ⟨#[]⟩,.int .i64 47,.int .i64 2,.int .i64 0,.slice b2 0 l2,.slice b3 0 l3]:=rfl
 rw [e2] at hwr
 generalize w1.alloc (.cells #[.string ⟨#[114,49]⟩,.slice b1 2 l1,.string ⟨#[]⟩,.int .i64 47,.int .i64 2,.int .i64 0,.slice b2 0 l2,.slice b3 0 l3] 32) = W1 at hk2 hC hwr ⊢
 obtain ⟨p,hp⟩:∃ q,q = w1.heap.size:=⟨_,rfl⟩
 rw [← hp] at hC ⊢
 refine hwr.mono ?_
 rintro e w2 ⟨hk3,u,rfl,ou⟩
 obtain ⟨ao,cap,rfl,_,_⟩:=own_cap ou
 have HW:=hid' (And.intro (HK.out.trans (hk2.trans hk3)) (And.intro (hC.kept hk3) (X.OwnS.rs ou)))
 clear hk2 hC hwr hk3 ou e2 hp HK
 go_wp2_with fail
 have hk0:=(Kept.refl w2).alloc (.cells (strs awM).toArray 9)
 have hrs:=rs_lit w2 awM 6 rfl
 have hrm:=readM_any (some ⟨w2.heap.size,0,none⟩) 6 6 awM _ (HG.out.1.kept (HW.out.1.trans hk0)) (HG.out.2.1.kept (HW.out.1.trans hk0)) hrs (by omega) (by decide)
 rw [aw3] at hrm
 refine hrm.mono ?_
 rintro e w3 ⟨hk4,v,rfl,gv,vv,rfl,o1,o2⟩
 obtain ⟨b4,l4,rfl⟩:=own_shape o1
 obtain ⟨b5,l5,rfl⟩:=own_shape o2
 have e3:(Value.agg #[.string (bs awD.name),.int .u8 awD.kind,.slice b4 awD.gs.length l4,.slice b5 awD.vs.length l5]) = .agg #[.string ⟨#[100,49]⟩,.int .u8 100,.slice b4 2 l4,.slice b5 1 l5]:=rfl
 rw [e3]
 have HW:=hid' (And.intro (HW.out.1.trans (hk0.trans hk4)) (And.intro (HW.out.2.1.kept (hk0.trans hk4)) (HW.out.2.2.kept (hk0.trans hk4))))
 have kM:=(Kept.refl w3).alloc (.cells #[.string ⟨#[100,49]⟩,.int .u8 100,.slice b4 2 l4,.slice b5 1 l5] 43)
 have hCm:=HW.out.2.1.kept kM
 have c3:=hCm.cell 3 (.int .i64 47)
 have c4:=hCm.cell 4 (.int .i64 2)
 clear hk0 hrs hrm hk4 o1 o2 e3 hCm
 go_wp2_with fail
 have hM:=Row4.alloc 43 w3 (.string ⟨#[100,49]⟩) (.int .u8 100) (.slice b4 2 l4) (.slice b5 1 l5)
 have hsz:(w3.alloc (.cells #[.string ⟨#[100,49]⟩,.int .u8 100,.slice b4 2 l4,.slice b5 1 l5] 43)).heap.size = w3.heap.size + 1:=by rw [World.size_alloc]
 generalize w3.alloc (.cells #[.string ⟨#[100,49]⟩,.int .u8 100,.slice b4 2 l4,.slice b5 1 l5] 43) = W4 at kM hM c3 c4 hsz ⊢
 rw [← hsz]
 obtain ⟨mb,hmb⟩:∃ q,q = w3.heap.size:=⟨_,rfl⟩
 rw [← hmb] at hM ⊢
 have hk5:=(Kept.refl W4).alloc (.cells (strs awT).toArray 9)
 have hrs:=rs_lit W4 awT 4 rfl
 have htx:=X.texts_any _ _ awT awT _ (HW.out.2.2.kept (kM.trans hk5)) hrs (by decide)
 rw [decide_eq_true (rfl:awT = awT)] at htx
 refine htx.mono ?_
 rintro e w4 ⟨hk6,rfl⟩
 have hM4:=hM.kept (hk5.trans hk6)
 have m1:=hM4.c1
 have m2:=hM4.c2
 have HK:=hid' (HW.out.1.trans (kM.trans (hk5.trans hk6)))
 clear kM hM hsz hmb hk5 hrs htx hk6 hM4 c3 c4
 go_wp2_with fail
 go_ret
 exact ⟨HK.out,rfl⟩
end V
end Go.Proofs.YtembglnonhlnkaaGreatDoor

namespace Go.Proofs.YtembglnonhlnkaaGreatDoor
open Go.RowKit
namespace V
open Q (hid' parseOf Lett ErrV Tab okN textOf)
open X (bs OwnS RS strs bs_list bs_size)
theorem nsl_nil (w:World):NSl w (.slice none 0 0) []:=⟨none,0,rfl,fun h => absurd h (by decide)⟩
end V
end Go.Proofs.YtembglnonhlnkaaGreatDoor

namespace Go.Proofs.YtembglnonhlnkaaGreatDoor
open Go.ChangeShapes Go.WideShapes Go.ChangeAt Go.RowKit Go.Joins Go.Deep
namespace V
open X (bs RS)
theorem bytes_str:Tryz.prog.bytesOf 9 = 16:=by kernel_rfl
theorem open_rs {H:Type} {enc:TypeId × Value→H} {W:World} {fuel:Nat} {c0:Value} {y:DataW H × List MemPlace} (h:DataW.trod enc Tryz.prog W 0 (fun _ => true) true fuel 22 [c0] = some y) :
  ∃ ao n c l,c0 = .slice ao n c∧RS W (.slice ao n c) l∧n≤c∧c≤9223372036854775807∧(∀ x ∈ l,x.length≤9223372036854775807)∧((∀ x ∈ y.1.weights Tryz.prog 22,x≤reachBytes)→(n + 256) * 16≤140737488355328):=by
 obtain ⟨ao,n,c,rfl⟩:∃ ao n c,c0 = .slice ao n c:=by
  rcases open_slice Tryz.underlying22 h with ⟨hcs,_⟩ | ⟨a,len,cap,_,_,_,_,hcs,_⟩
  ·
   simp at hcs; exact ⟨_,_,_,hcs⟩
  ·
   simp at hcs; exact ⟨_,_,_,hcs⟩
 obtain ⟨ao',n',c',ws,e,h1,h2,h3,h4⟩:=words_of h
 simp at e
 obtain ⟨rfl,rfl,rfl⟩:=e
 refine ⟨ao,n,c,ws,rfl,h1,h2,h3,h4,fun hx => ?_⟩
 rcases open_slice Tryz.underlying22 h with ⟨hcs,_⟩ | ⟨a,len,cap,mm,nn,D,Pl,hcs,_,_,_,_,rfl,_⟩
 ·
  simp at hcs
  obtain ⟨_,rfl,_⟩:=hcs
  omega
 ·
  simp at hcs
  obtain ⟨_,rfl,_⟩:=hcs
  unfold reachBytes at hx
  have:=hx ((n + (mm - n)) * 16) (by simp [DataW.weights,Tryz.underlying22,bytes_str])
  omega
set_option maxRecDepth 100000 in
theorem open_Words2 {H:Type} {enc:TypeId × Value→H} {W:World} {r:Reach} {b0:Nat} {v:Value} {d:DataW H} {p:List MemPlace} (hv:Value.okWide Tryz.prog W r b0 22 v)
  (h:DataW.Trod enc Tryz.prog W 0 (fun _ => true) true 22 v d p) (hz:∀ x ∈ d.weights Tryz.prog 22,x≤reachBytes):∃ (ao:Option Addr) (n c:Nat) (ws:List (List UInt8)),v = .slice ao n c∧RS W (.slice ao n c) ws∧n≤c∧c≤9223372036854775807∧(∀ x ∈ ws,x.length≤9223372036854775807)∧(n + 256) * 16≤140737488355328:=by
 obtain ⟨ao,n,c,rfl⟩:=okWide_slice Tryz.underlying22 hv
 obtain ⟨fuel,hf⟩:=h
 obtain ⟨ao',n',c',l,e,h1,h2,h3,h4,h5⟩:=open_rs (show DataW.trod enc Tryz.prog W 0 (fun _ => true) true fuel 22 [.slice ao n c] = some (d,p) from hf)
 simp at e
 obtain ⟨rfl,rfl,rfl⟩:=e
 exact ⟨ao,n,c,l,rfl,h1,h2,h3,h4,h5 hz⟩
end V
end Go.Proofs.YtembglnonhlnkaaGreatDoor
