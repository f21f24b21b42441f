/- Lemmas. -/
import Derived.Test.YtihnknnddldgiaaGreatDoorGbg
import Derived.Test.YtihnknnddldgiaaGreatDoorGbh
import Derived.Test.YtihnknnddldgiaaGreatDoorGag
import Derived.Laws.OwnMore
namespace Go.Proofs.YtihnknnddldgiaaGreatDoor
open Go.RowKit
namespace V
open Q (hid' parseOf Lett ErrV Tab okN textOf)
open X (bs OwnS RS strs bs_list bs_size)
structure CdR (w:World) (a1:Option Addr) (n1 k1:Nat) (a2:Option Addr) (n2 k2:Nat) (a3:Option Addr) (n3 k3:Nat) (c:Cd):Prop where
 nodes:RS w (.slice a1 n1 k1) c.nodes
 vals:NSl w (.slice a2 n2 k2) c.vals
 steps:ISl w (.slice a3 n3 k3) c.steps
theorem CdR.kept {w w':World} {a1 a2 a3:Option Addr} {n1 k1 n2 k2 n3 k3:Nat} {c:Cd} (h:CdR w a1 n1 k1 a2 n2 k2 a3 n3 k3 c) (k:Kept w w'):CdR w' a1 n1 k1 a2 n2 k2 a3 n3 k3 c:=⟨h.nodes.kept k,h.vals.kept k,h.steps.kept k⟩
def cdC (c:Cd) (nv xv sv:Value):List Value:=[.string (bs c.name),nv,.string (bs c.ref),.int .i64 c.val.1,.int .i64 c.val.2,.int .i64 c.kind,xv,sv]
set_option maxRecDepth 100000 in
set_option maxHeartbeats 8000000 in
theorem csame_any (a1 a2 a3 b1 b2 b3:Option Addr) (n1 k1 n2 k2 n3 k3 m1 l1 m2 l2 m3 l3:Nat) (c d:Cd) (w:World) (hc:CdR w a1 n1 k1 a2 n2 k2 a3 n3 k3 c) (hd:CdR w b1 m1 l1 b2 m2 l2 b3 m3 l3 d) (h1:n1<=9223372036854775807) (h2:n2<=9223372036854775807) (h3:n3<=9223372036854775807) :
  Calls Tryz.prog 28 #[cdV c (.slice a1 n1 k1) (.slice a2 n2 k2) (.slice a3 n3 k3),cdV d (.slice b1 m1 l1) (.slice b2 m2 l2) (.slice b3 m3 l3)] w fun e w' => Kept w w'/\e = .returned (.bool (decide (c = d))):=by
 obtain ⟨cn,cnd,cr,⟨cm,cx⟩,ckd,cvs,css⟩:=c
 obtain ⟨dn,dnd,dr,⟨dm,dx⟩,dkd,dvs,dss⟩:=d
 unfold cdV
 simp only
 have HC:=hid' (And.intro hc hd)
 have e1:(bs cn).toList = cn:=by rw [ByteArray.toList_eq,bs_list]
 have e2:(bs dn).toList = dn:=by rw [ByteArray.toList_eq,bs_list]
 have e3:(bs cr).toList = cr:=by rw [ByteArray.toList_eq,bs_list]
 have e4:(bs dr).toList = dr:=by rw [ByteArray.toList_eq,bs_list]
 generalize bs cn = s1 at e1 ⊢
 generalize bs dn = s2 at e2 ⊢
 generalize bs cr = s3 at e3 ⊢
 generalize bs dr = s4 at e4 ⊢
 have HE:=hid' (And.intro e1 (And.intro e2 (And.intro e3 e4)))
 obtain ⟨r,hr⟩:∃ r,r = decide ((⟨cn,cnd,cr,(cm,cx),ckd,cvs,css⟩:Cd) = ⟨dn,dnd,dr,(dm,dx),dkd,dvs,dss⟩):=⟨_,rfl⟩
 rw [<- hr]
 have HR:=hid' hr
 clear hr e1 e2 e3 e4 hc hd
 go_enter Tryz.func28,Tryz.ntmps28
 go_upto_region 1 with fail
 have hK:=((Kept.refl w).alloc (.cells #[.string s1,.slice a1 n1 k1,.string s3,.int .i64 cm,.int .i64 cx,.int .i64 ckd,.slice a2 n2 k2,.slice a3 n3 k3] 32)).alloc (.cells #[.string s2,.slice b1 m1 l1,.string s4,.int .i64 dm,.int .i64 dx,.int .i64 dkd,.slice b2 m2 l2,.slice b3 m3 l3] 32)
 have hA:=(RowL.alloc 32 w [.string s1,.slice a1 n1 k1,.string s3,.int .i64 cm,.int .i64 cx,.int .i64 ckd,.slice a2 n2 k2,.slice a3 n3 k3]).kept ((Kept.refl _).alloc (.cells #[.string s2,.slice b1 m1 l1,.string s4,.int .i64 dm,.int .i64 dx,.int .i64 dkd,.slice b2 m2 l2,.slice b3 m3 l3] 32))
 have hB:=RowL.alloc 32 (w.alloc (.cells #[.string s1,.slice a1 n1 k1,.string s3,.int .i64 cm,.int .i64 cx,.int .i64 ckd,.slice a2 n2 k2,.slice a3 n3 k3] 32)) [.string s2,.slice b1 m1 l1,.string s4,.int .i64 dm,.int .i64 dx,.int .i64 dkd,.slice b2 m2 l2,.slice b3 m3 l3]
 rw [World.size_alloc] at hB
 generalize (w.alloc (.cells #[.string s1,.slice a1 n1 k1,.string s3,.int .i64 cm,.int .i64 cx,.int .i64 ckd,.slice a2 n2 k2,.slice a3 n3 k3] 32)).alloc (.cells #[.string s2,.slice b1 m1 l1,.string s4,.int .i64 dm,.int .i64 dx,.int .i64 dkd,.slice b2 m2 l2,.slice b3 m3 l3] 32) = W0 at hK hA hB ⊢
 obtain ⟨q,hq⟩:∃ q,q = w.heap.size + 1:=⟨_,rfl⟩
 rw [<- hq] at hB ⊢
 obtain ⟨p,hp⟩:∃ q,q = w.heap.size:=⟨_,rfl⟩
 rw [<- hp] at hA ⊢
 have HW:=hid' (And.intro hK (And.intro hA hB))
 clear hK hA hB hq hp
 have f0:=HW.out.2.1.cell 0 (.string s1)
 have f1:=HW.out.2.1.cell 1 (.slice a1 n1 k1)
 have f2:=HW.out.2.1.cell 2 (.string s3)
 have f3:=HW.out.2.1.cell 3 (.int .i64 cm)
 have f4:=HW.out.2.1.cell 4 (.int .i64 cx)
 have f5:=HW.out.2.1.cell 5 (.int .i64 ckd)
 have f6:=HW.out.2.1.cell 6 (.slice a2 n2 k2)
 have f7:=HW.out.2.1.cell 7 (.slice a3 n3 k3)
 have g0:=HW.out.2.2.cell 0 (.string s2)
 have g1:=HW.out.2.2.cell 1 (.slice b1 m1 l1)
 have g2:=HW.out.2.2.cell 2 (.string s4)
 have g3:=HW.out.2.2.cell 3 (.int .i64 dm)
 have g4:=HW.out.2.2.cell 4 (.int .i64 dx)
 have g5:=HW.out.2.2.cell 5 (.int .i64 dkd)
 have g6:=HW.out.2.2.cell 6 (.slice b2 m2 l2)
 have g7:=HW.out.2.2.cell 7 (.slice b3 m3 l3)
 by_cases x1:cn = dn
 rotate_left
 ·
  have y1:¬ s1.toList = s2.toList:=by rw [HE.out.1,HE.out.2.1]; exact x1
  have y1':(s1.toList == s2.toList) = false:=by simpa using y1
  have HF:=hid' (show r = false by rw [HR.out]; exact decide_eq_false (fun e => x1 (congrArg Cd.name e)))
  go_wp2_with fail
  go_ret
  exact ⟨HW.out.1,by rw [HF.out]; rfl⟩
 have y1:s1.toList = s2.toList:=by rw [HE.out.1,HE.out.2.1]; exact x1
 have y1':(s1.toList == s2.toList) = true:=by rw [y1]; simp
 go_wp2_with fail
 refine (eq_strs a1 b1 n1 m1 k1 l1 cnd dnd _ (HC.out.1.nodes.kept HW.out.1) (HC.out.2.nodes.kept HW.out.1) (by assumption)).mono ?_
 rintro e w1 ⟨hk,rfl⟩
 have HW:=hid' (And.intro (HW.out.1.trans hk) (And.intro (HW.out.2.1.kept hk) (HW.out.2.2.kept hk)))
 clear f0 f1 f2 f3 f4 f5 f6 f7 g0 g1 g2 g3 g4 g5 g6 g7
 clear hk
 have f0:=HW.out.2.1.cell 0 (.string s1)
 have f1:=HW.out.2.1.cell 1 (.slice a1 n1 k1)
 have f2:=HW.out.2.1.cell 2 (.string s3)
 have f3:=HW.out.2.1.cell 3 (.int .i64 cm)
 have f4:=HW.out.2.1.cell 4 (.int .i64 cx)
 have f5:=HW.out.2.1.cell 5 (.int .i64 ckd)
 have f6:=HW.out.2.1.cell 6 (.slice a2 n2 k2)
 have f7:=HW.out.2.1.cell 7 (.slice a3 n3 k3)
 have g0:=HW.out.2.2.cell 0 (.string s2)
 have g1:=HW.out.2.2.cell 1 (.slice b1 m1 l1)
 have g2:=HW.out.2.2.cell 2 (.string s4)
 have g3:=HW.out.2.2.cell 3 (.int .i64 dm)
 have g4:=HW.out.2.2.cell 4 (.int .i64 dx)
 have g5:=HW.out.2.2.cell 5 (.int .i64 dkd)
 have g6:=HW.out.2.2.cell 6 (.slice b2 m2 l2)
 have g7:=HW.out.2.2.cell 7 (.slice b3 m3 l3)
 by_cases x2:cnd = dnd
 rotate_left
 ·
  rw [decide_eq_false x2]
  have HF:=hid' (show r = false by rw [HR.out]; exact decide_eq_false (fun e => x2 (congrArg Cd.nodes e)))
  go_wp2_with fail
  go_ret
  exact ⟨HW.out.1,by rw [HF.out]; rfl⟩
 rw [decide_eq_true x2]
 by_cases x3:cr = dr
 rotate_left
 ·
  have y3:¬ s3.toList = s4.toList:=by rw [HE.out.2.2.1,HE.out.2.2.2]; exact x3
  have y3':(s3.toList == s4.toList) = false:=by simpa using y3
  have HF:=hid' (show r = false by rw [HR.out]; exact decide_eq_false (fun e => x3 (congrArg Cd.ref e)))
  go_wp2_with fail
  go_ret
  exact ⟨HW.out.1,by rw [HF.out]; rfl⟩
 have y3:s3.toList = s4.toList:=by rw [HE.out.2.2.1,HE.out.2.2.2]; exact x3
 have y3':(s3.toList == s4.toList) = true:=by rw [y3]; simp
 by_cases x4:cm = dm
 rotate_left
 ·
  have x4':(cm == dm) = false:=by simpa using x4
  have HF:=hid' (show r = false by rw [HR.out]; exact decide_eq_false (fun e => x4 (congrArg (fun c => c.val.1) e)))
  go_wp2_with fail
  go_ret
  exact ⟨HW.out.1,by rw [HF.out]; rfl⟩
 subst x4
 by_cases x5:cx = dx
 rotate_left
 ·
  have x5':(cx == dx) = false:=by simpa using x5
  have HF:=hid' (show r = false by rw [HR.out]; exact decide_eq_false (fun e => x5 (congrArg (fun c => c.val.2) e)))
  go_wp2_with fail
  go_ret
  exact ⟨HW.out.1,by rw [HF.out]; rfl⟩
 subst x5
 by_cases x6:ckd = dkd
 rotate_left
 ·
  have x6':(ckd == dkd) = false:=by simpa using x6
  have HF:=hid' (show r = false by rw [HR.out]; exact decide_eq_false (fun e => x6 (congrArg Cd.kind e)))
  go_wp2_with fail
  go_ret
  exact ⟨HW.out.1,by rw [HF.out]; rfl⟩
 subst x6
 go_wp2_with fail
 refine (eq_nums a2 b2 n2 m2 k2 l2 cvs dvs _ (HC.out.1.vals.kept HW.out.1) (HC.out.2.vals.kept HW.out.1) (by assumption)).mono ?_
 rintro e w2 ⟨hk,rfl⟩
 have HW:=hid' (And.intro (HW.out.1.trans hk) (And.intro (HW.out.2.1.kept hk) (HW.out.2.2.kept hk)))
 clear f0 f1 f2 f3 f4 f5 f6 f7 g0 g1 g2 g3 g4 g5 g6 g7
 clear hk
 have f0:=HW.out.2.1.cell 0 (.string s1)
 have f1:=HW.out.2.1.cell 1 (.slice a1 n1 k1)
 have f2:=HW.out.2.1.cell 2 (.string s3)
 have f3:=HW.out.2.1.cell 3 (.int .i64 cm)
 have f4:=HW.out.2.1.cell 4 (.int .i64 cx)
 have f5:=HW.out.2.1.cell 5 (.int .i64 ckd)
 have f6:=HW.out.2.1.cell 6 (.slice a2 n2 k2)
 have f7:=HW.out.2.1.cell 7 (.slice a3 n3 k3)
 have g0:=HW.out.2.2.cell 0 (.string s2)
 have g1:=HW.out.2.2.cell 1 (.slice b1 m1 l1)
 have g2:=HW.out.2.2.cell 2 (.string s4)
 have g3:=HW.out.2.2.cell 3 (.int .i64 cm)
 have g4:=HW.out.2.2.cell 4 (.int .i64 cx)
 have g5:=HW.out.2.2.cell 5 (.int .i64 ckd)
 have g6:=HW.out.2.2.cell 6 (.slice b2 m2 l2)
 have g7:=HW.out.2.2.cell 7 (.slice b3 m3 l3)
 by_cases x7:cvs = dvs
 rotate_left
 ·
  rw [decide_eq_false x7]
  have HF:=hid' (show r = false by rw [HR.out]; exact decide_eq_false (fun e => x7 (congrArg Cd.vals e)))
  go_wp2_with fail
  go_ret
  exact ⟨HW.out.1,by rw [HF.out]; rfl⟩
 rw [decide_eq_true x7]
 go_wp2_with fail
 refine (eq_ints a3 b3 n3 m3 k3 l3 css dss _ (HC.out.1.steps.kept HW.out.1) (HC.out.2.steps.kept HW.out.1) (by assumption)).mono ?_
 rintro e w3 ⟨hk,rfl⟩
 have HK:=hid' (HW.out.1.trans hk)
 clear hk
 have HF:=hid' (show r = decide (css = dss) by
  rw [HR.out,decide_eq_decide]
  exact ⟨fun e => congrArg Cd.steps e,fun e => by rw [x1,x2,x3,x7,e]⟩)
 clear f0 f1 f2 f3 f4 f5 f6 f7 g0 g1 g2 g3 g4 g5 g6 g7
 generalize decide (css = dss) = bb at HF ⊢
 cases bb <;>
 ·
  go_wp2_with fail
  go_ret
  exact ⟨HK.out,by rw [HF.out]; rfl⟩
open Q (hid' parseOf Lett ErrV Tab okN textOf)
open X (bs OwnS RS strs bs_list bs_size)
theorem own_keptK' {w w':World} {B:Nat} {v:Value} {ws:List (List UInt8)} (h:OwnS B w v ws) (k:Kept w w'):OwnS B w' v ws:=own_kept h (fun b hb => k.block b (h.lt b hb).2)
structure CwI (w wr:World) (p:Nat) (t:TypeId) (cs:List Value) (u:Value) (ws:List (List UInt8)):Prop where
 kp:Kept w wr
 le:p<=w.heap.size
 row:RowL t wr p cs
 own:OwnS (w.heap.size + 1) wr u ws
theorem CwI.kept {w wr wr':World} {p:Nat} {t:TypeId} {cs:List Value} {u:Value} {ws:List (List UInt8)} (h:CwI w wr p t cs u ws) (k:Kept wr wr'):CwI w wr' p t cs u ws:=⟨h.kp.trans k,h.le,h.row.kept k,own_keptK' h.own k⟩
theorem CwI.add {w wr W3 W4:World} {p:Nat} {t:TypeId} {cs:List Value} {u:Value} {ws news:List (List UInt8)} {g n cap:Nat} (h:CwI w wr p t cs u ws) (KA:Kept wr W3) (own4:W4.ownsRow (w.heap.size + 1) 9 1 (.slice (some ⟨g,0,none⟩) n cap) n (strs ws ++ strs news)) (hn:n = ws.length + news.length) (hg:W3.grownBy W4 u.ownBlock) :
  CwI w W4 p t cs (.slice (some ⟨g,0,none⟩) n cap) (ws ++ news):=by
 have h3:=h.kept KA
 refine ⟨Below.grown h3.kp hg h3.kp.size (fun k hk => by have:=(h3.own.lt k hk).1; omega),h.le,h3.row.block (hg.block p h3.row.lt (fun e => by have:=(h3.own.lt p e.symm).1; have:=h.le; omega)),?_⟩
 unfold OwnS
 rw [X.strs_app,List.length_append,<- hn]
 exact own4
def WwIs (k:Int) (xv sv:Value) (vs:List (Int × Int)) (ss:List Int) (w:World):Prop:=∀ V,Kept w V->Calls Tryz.prog 62 #[.agg #[.int .i64 k,xv,sv]] V fun e w' => Kept V w'/\∃ u,e = .returned u/\RS w' u (wwords k vs ss)
theorem wave_not (c:UInt8) (h:refC c = true ∨ valueC c = true):waveC c = false:=by
 rcases h with h | h
 ·
  have h1:=of_decide_eq_true h
  simp only [List.mem_cons,List.not_mem_nil,or_false] at h1
  rcases h1 with rfl | rfl | rfl | rfl | rfl <;> decide
 ·
  have h1:=of_decide_eq_true h
  simp only [List.mem_cons,List.not_mem_nil,or_false] at h1
  rcases h1 with rfl | rfl | rfl | rfl | rfl | rfl | rfl | rfl <;> decide
theorem lit_own (w:World) (B:Nat) (s:ByteArray) (hB:B<=w.heap.size):OwnS B (w.alloc (.cells #[.string s] 9)) (.slice (some ⟨w.heap.size,0,none⟩) 1 1) [s.data.toList]:=by
 refine ⟨rfl,.inr ⟨w.heap.size,1,#[.string s],rfl,hB,?_,Nat.le_refl _,by unfold maxLen; omega,rfl,rfl⟩⟩
 show (w.heap.push _)[w.heap.size]? = _
 simp
set_option maxRecDepth 100000 in
set_option maxHeartbeats 8000000 in
theorem cardWords_plain (a1 a2 a3:Option Addr) (n1 k1 n2 k2 n3 k3:Nat) (c:Cd) (w:World) (hL:Lett w) (hT:Tab w) (hc:CdR w a1 n1 k1 a2 n2 k2 a3 n3 k3 c) (hh:0 < c.name.length) (hl:(n1 + 200) * 16<=140737488355328) (hw:waveC (c.name.getD 0 0) = false) :
  Calls Tryz.prog 27 #[cdV c (.slice a1 n1 k1) (.slice a2 n2 k2) (.slice a3 n3 k3)] w fun e w' => Kept w w'/\∃ u,e = .returned u/\OwnS w.heap.size w' u (cwords c):=by
 obtain ⟨cn,cnd,cr,⟨cm,cx⟩,ckd,cvs,css⟩:=c
 unfold cdV
 simp only at hh hw ⊢
 have HC:=hid' (And.intro hc (And.intro hL (And.intro hT (And.intro hh hw))))
 have HLN:=hid' (show n1 = cnd.length from rs_len hc.nodes)
 obtain ⟨s1,hs1⟩:∃ s,s = bs cn:=⟨_,rfl⟩
 obtain ⟨s3,hs3⟩:∃ s,s = bs cr:=⟨_,rfl⟩
 rw [<- hs1,<- hs3]
 have HE:=hid' (And.intro hs1 hs3)
 clear hs1 hs3 hc hL hT hh hw
 obtain ⟨i0,hi,hz0,hz1,hz2⟩:=info_parts X.info_str
 go_enter Tryz.func27,Tryz.ntmps27
 go_wp2_with fail
 have hK:=(Kept.refl w).alloc (.cells #[.string s1,.slice a1 n1 k1,.string s3,.int .i64 cm,.int .i64 cx,.int .i64 ckd,.slice a2 n2 k2,.slice a3 n3 k3] 32)
 have hA:=RowL.alloc 32 w [.string s1,.slice a1 n1 k1,.string s3,.int .i64 cm,.int .i64 cx,.int .i64 ckd,.slice a2 n2 k2,.slice a3 n3 k3]
 generalize w.alloc (.cells #[.string s1,.slice a1 n1 k1,.string s3,.int .i64 cm,.int .i64 cx,.int .i64 ckd,.slice a2 n2 k2,.slice a3 n3 k3] 32) = W0 at hK hA ⊢
 obtain ⟨p,hp⟩:∃ q,q = w.heap.size:=⟨_,rfl⟩
 rw [<- hp] at hA ⊢
 refine (anew_any s1 _).mono ?_
 rintro e w1 ⟨hk1,rfl⟩
 have hA:=hA.kept hk1
 have f1:=hA.cell 1 (.slice a1 n1 k1)
 have f1':=(hA.kept ((Kept.refl w1).alloc (.cells #[.string s1] 9))).cell 1 (.slice a1 n1 k1)
 have HP:=hid' hp
 have HW:=hid' (And.intro (hK.trans hk1) hA)
 clear hK hA hk1 hp
 go_wp2_with fail
 have HI0:Hid (CwI w _ p 32 [.string s1,.slice a1 n1 k1,.string s3,.int .i64 cm,.int .i64 cx,.int .i64 ckd,.slice a2 n2 k2,.slice a3 n3 k3] (.slice (some ⟨w1.heap.size,0,none⟩) 1 1) [s1.data.toList]):=⟨HW.out.1.alloc (.cells #[.string s1] 9),by rw [HP.out]; exact Nat.le_refl _,HW.out.2.kept ((Kept.refl w1).alloc (.cells #[.string s1] 9)),lit_own w1 _ s1 (by have:=HW.out.2.lt; have:=HP.out; omega)⟩
 generalize w1.alloc (.cells #[.string s1] 9) = W1 at HI0 f1' ⊢
 generalize (Value.slice (some ⟨w1.heap.size,0,none⟩) 1 1) = u0 at HI0 ⊢
 go_loopw [3,14] (fun vu vi wr => ∃ k:Nat,k<=n1/\vi = .int .i64 (k:Int)/\Hid (CwI w wr p 32 [.string s1,.slice a1 n1 k1,.string s3,.int .i64 cm,.int .i64 cx,.int .i64 ckd,.slice a2 n2 k2,.slice a3 n3 k3] vu ([s1.data.toList] ++ cnd.take k))) (fun _ vi _ => n1 - (intOf vi).toNat)
 case atStart => exact ⟨0,Nat.zero_le _,rfl,by rw [List.take_zero,List.append_nil]; exact HI0.out⟩
 case round =>
  obtain ⟨k,hk,rfl,HI⟩:=hrel
  clear HI0
  by_cases hkt:k < n1
  ·
   have hki:(k:Int) < (n1:Int):=by omega
   obtain ⟨ao',c',hv',hx⟩:=HC.out.1.nodes.kept HI.out.kp
   simp only [Value.slice.injEq] at hv'
   obtain ⟨rfl,hnw0,rfl⟩:=hv'
   clear hnw0
   have hnw:n1 = cnd.length:=HLN.out
   obtain ⟨b,off,rfl,hb,hcl⟩:=hx (show 0 < cnd.length by omega)
   have q0:wr.cell? ⟨b,off + k,none⟩ = some (.string (bs (cnd.getD k []))):=hcl k (show k < cnd.length by omega)
   obtain ⟨sk,hsk⟩:∃ s,s = bs (cnd.getD k []):=⟨_,rfl⟩
   rw [<- hsk] at q0
   have HTK:=hid' (show [s1.data.toList] ++ cnd.take k ++ [sk.data.toList] = [s1.data.toList] ++ cnd.take (k + 1) by
    rw [hsk,bs_list,List.append_assoc,List.take_succ_eq_append_getElem (by omega)]
    simp [List.getElem?_eq_getElem (show k < cnd.length by omega)])
   obtain ⟨wk,hwk⟩:∃ l,l = [s1.data.toList] ++ cnd.take k:=⟨_,rfl⟩
   rw [<- hwk] at HI HTK
   have HLW:=hid' (show wk.length<=n1 + 1 by rw [hwk,List.length_append,List.length_take]; simp; omega)
   clear hx hcl hnw hsk hwk
   go_wp2_with fail
   refine (anew_any sk _).mono ?_
   rintro e w2 ⟨hk2,rfl⟩
   have HI:=hid' (HI.out.kept hk2)
   clear hk2
   have KA:=(Kept.refl w2).alloc (.cells #[.string sk] 9)
   go_wp2_with (at_builtin; refine wpList_append_lies _ rfl (.tmp 18) (.tmp 21) 22 rfl (w.heap.size + 1) 9 i0 (.string ByteArray.empty) 1 16 X.und_strs hi hz0 hz1 hz2 rfl (by decide) u3 wk.length (strs wk) rfl (by exact (HI.out.kept KA).own) ⟨w2.heap.size,0,none⟩ 1 1 [.string sk] rfl rfl (X.cell_new w2 _ _) (fun u hu => by simp at hu; subst hu; rfl) (by omega) (by have:=HLW.out; unfold maxLen; omega) (by have:=HLW.out; omega) (by have:=HI.out.kp.size; have:=HI.out.row.lt; have:=HI.out.le; have:=HP.out; simp; omega) _ rfl ?_)
   intro g4 cap4 W4 own4 hg4 hgg _
   have HI:=hid' (HI.out.add (news:=[sk.data.toList]) KA own4 rfl hg4)
   clear own4 hg4 hgg KA
   go_wp2_with fail
   go_roundw
   case rel => exact ⟨k + 1,by omega,by go_num,by rw [<- HTK.out]; exact HI.out⟩
   case measure => show n1 - ((k:Int) + 1).toNat < n1 - (k:Int).toNat; omega
  ·
   have hki:¬ (k:Int) < (n1:Int):=by omega
   obtain rfl:k = n1:=by omega
   rw [List.take_of_length_le (by rw [<- HLN.out]; exact Nat.le_refl _)] at HI
   have f0:=HI.out.row.cell 0 (.string s1)
   have hs1:0 < s1.size:=by rw [HE.out.1,bs_size]; exact HC.out.2.2.2.1
   have hs1':(0:Int) < (s1.size:Int):=by omega
   have HQ:=hid' (show s1[0] = cn.getD 0 0 from head_of hs1 HE.out.1)
   have HCW:=hid' (show cwords ⟨cn,cnd,cr,(cm,cx),ckd,cvs,css⟩ = [s1.data.toList] ++ cnd ++ (if refC s1[0] = true then [cr] else []) ++ (if valueC s1[0] = true then [tx (cm,cx)] else []) ++ (if waveC s1[0] = true then wwords ckd cvs css else []) by
    unfold cwords
    rw [HQ.out,HE.out.1,bs_list])
   go_wp2_with fail
   refine (among_is s1[0] ⟨#[102,104,100,115,120]⟩ [102,104,100,115,120] _ rfl).mono ?_
   rintro e w2 ⟨rfl,rfl⟩
   rw [show decide (s1[0] ∈ ([102,104,100,115,120]:List UInt8)) = refC s1[0] from rfl]
   obtain ⟨sv,hsv⟩:∃ s,s = bs (tx (cm,cx)):=⟨_,rfl⟩
   have HLW:=hid' (show ([s1.data.toList] ++ cnd).length<=k + 1 by rw [List.length_append,<- HLN.out]; simp only [List.length_cons,List.length_nil]; omega)
   have HSV:=hid' hsv
   clear hsv
   have f2:=HI.out.row.cell 2 (.string s3)
   have f3:=HI.out.row.cell 3 (.int .i64 cm)
   have f4:=HI.out.row.cell 4 (.int .i64 cx)
   have f5:=HI.out.row.cell 5 (.int .i64 ckd)
   have f6:=HI.out.row.cell 6 (.slice a2 n2 k2)
   have f7:=HI.out.row.cell 7 (.slice a3 n3 k3)
   cases hr:refC s1[0]
   ·
    go_wp2_with fail
    refine (among_is s1[0] ⟨#[114,99,108,101,103,102,104,116]⟩ [114,99,108,101,103,102,104,116] _ rfl).mono ?_
    rintro e WV ⟨rfl,rfl⟩
    rw [show decide (s1[0] ∈ ([114,99,108,101,103,102,104,116]:List UInt8)) = valueC s1[0] from rfl]
    cases hv:valueC s1[0]
    ·
     go_wp2_with fail
     refine (among_is s1[0] ⟨#[118,105]⟩ [118,105] _ rfl).mono ?_
     rintro e WV ⟨rfl,rfl⟩
     rw [show decide (s1[0] ∈ ([118,105]:List UInt8)) = waveC s1[0] from rfl]
     cases hw:waveC s1[0]
     ·
      have HFW:=hid' (show cwords ⟨cn,cnd,cr,(cm,cx),ckd,cvs,css⟩ = [s1.data.toList] ++ cnd by rw [HCW.out,hr,hv,hw]; simp)
      go_wp2_with fail
      go_ret
      exact ⟨HI.out.kp,_,rfl,by rw [HFW.out]; exact own_mono HI.out.own (Nat.le_succ _)⟩
     ·
      exact absurd (show waveC (cn.getD 0 0) = true by rw [<- HQ.out]; exact hw) (by rw [HC.out.2.2.2.2]; decide)
    ·
     have hw:=wave_not s1[0] (.inr hv)
     go_wp2_with fail
     refine (ctext_any cm cx _ (HC.out.2.1.kept HI.out.kp) (HC.out.2.2.1.kept HI.out.kp)).mono ?_
     rintro e w4 ⟨hk4,rfl⟩
     have HI:=hid' (HI.out.kept hk4)
     rw [<- HSV.out]
     clear f0 f2 f3 f4 f5 f6 f7
     clear hk4
     have KA:=(Kept.refl w4).alloc (.cells #[.string sv] 9)
     go_wp2_with (at_builtin; refine wpList_append_lies _ rfl (.tmp 37) (.tmp 41) 22 rfl (w.heap.size + 1) 9 i0 (.string ByteArray.empty) 1 16 X.und_strs hi hz0 hz1 hz2 rfl (by decide) u3 ([s1.data.toList] ++ cnd).length (strs ([s1.data.toList] ++ cnd)) rfl (by exact (HI.out.kept KA).own) ⟨w4.heap.size,0,none⟩ 1 1 [.string sv] rfl rfl (X.cell_new w4 _ _) (fun u hu => by simp at hu; subst hu; rfl) (by omega) (by have:=HLW.out; unfold maxLen; omega) (by have:=HLW.out; omega) (by have:=HI.out.kp.size; have:=HI.out.row.lt; have:=HI.out.le; have:=HP.out; simp; omega) _ rfl ?_)
     intro g4 cap4 W4 own4 hg4 hgg _
     have HI:=hid' (HI.out.add (news:=[sv.data.toList]) KA own4 rfl hg4)
     clear own4 hg4 hgg KA
     have f0:=HI.out.row.cell 0 (.string s1)
     have f2:=HI.out.row.cell 2 (.string s3)
     have f3:=HI.out.row.cell 3 (.int .i64 cm)
     have f4:=HI.out.row.cell 4 (.int .i64 cx)
     have f5:=HI.out.row.cell 5 (.int .i64 ckd)
     have f6:=HI.out.row.cell 6 (.slice a2 n2 k2)
     have f7:=HI.out.row.cell 7 (.slice a3 n3 k3)
     go_wp2_with fail
     refine (among_is s1[0] ⟨#[118,105]⟩ [118,105] _ rfl).mono ?_
     rintro e WV ⟨rfl,rfl⟩
     rw [show decide (s1[0] ∈ ([118,105]:List UInt8)) = waveC s1[0] from rfl]
     rw [hw]
     have HFW:=hid' (show cwords ⟨cn,cnd,cr,(cm,cx),ckd,cvs,css⟩ = [s1.data.toList] ++ cnd ++ [sv.data.toList] by rw [HCW.out,hr,hv,hw]; simp [HSV.out,bs_list])
     go_wp2_with fail
     go_ret
     exact ⟨HI.out.kp,_,rfl,by rw [HFW.out]; exact own_mono HI.out.own (Nat.le_succ _)⟩
   ·
    have hw:=wave_not s1[0] (.inl hr)
    go_wp2_with fail
    refine (anew_any s3 _).mono ?_
    rintro e w3 ⟨hk3,rfl⟩
    have HI:=hid' (HI.out.kept hk3)
    clear f0 f2 f3 f4 f5 f6 f7
    clear hk3
    have KA:=(Kept.refl w3).alloc (.cells #[.string s3] 9)
    go_wp2_with (at_builtin; refine wpList_append_lies _ rfl (.tmp 29) (.tmp 33) 22 rfl (w.heap.size + 1) 9 i0 (.string ByteArray.empty) 1 16 X.und_strs hi hz0 hz1 hz2 rfl (by decide) u3 ([s1.data.toList] ++ cnd).length (strs ([s1.data.toList] ++ cnd)) rfl (by exact (HI.out.kept KA).own) ⟨w3.heap.size,0,none⟩ 1 1 [.string s3] rfl rfl (X.cell_new w3 _ _) (fun u hu => by simp at hu; subst hu; rfl) (by omega) (by have:=HLW.out; unfold maxLen; omega) (by have:=HLW.out; omega) (by have:=HI.out.kp.size; have:=HI.out.row.lt; have:=HI.out.le; have:=HP.out; simp; omega) _ rfl ?_)
    intro g4 cap4 W4 own4 hg4 hgg _
    have HI:=hid' (HI.out.add (news:=[s3.data.toList]) KA own4 rfl hg4)
    clear own4 hg4 hgg KA
    have f0:=HI.out.row.cell 0 (.string s1)
    have f2:=HI.out.row.cell 2 (.string s3)
    have f3:=HI.out.row.cell 3 (.int .i64 cm)
    have f4:=HI.out.row.cell 4 (.int .i64 cx)
    have f5:=HI.out.row.cell 5 (.int .i64 ckd)
    have f6:=HI.out.row.cell 6 (.slice a2 n2 k2)
    have f7:=HI.out.row.cell 7 (.slice a3 n3 k3)
    go_wp2_with fail
    refine (among_is s1[0] ⟨#[114,99,108,101,103,102,104,116]⟩ [114,99,108,101,103,102,104,116] _ rfl).mono ?_
    rintro e WV ⟨rfl,rfl⟩
    rw [show decide (s1[0] ∈ ([114,99,108,101,103,102,104,116]:List UInt8)) = valueC s1[0] from rfl]
    cases hv:valueC s1[0]
    ·
     go_wp2_with fail
     refine (among_is s1[0] ⟨#[118,105]⟩ [118,105] _ rfl).mono ?_
     rintro e WV ⟨rfl,rfl⟩
     rw [show decide (s1[0] ∈ ([118,105]:List UInt8)) = waveC s1[0] from rfl]
     rw [hw]
     have HFW:=hid' (show cwords ⟨cn,cnd,cr,(cm,cx),ckd,cvs,css⟩ = [s1.data.toList] ++ cnd ++ [s3.data.toList] by rw [HCW.out,hr,hv,hw]; simp [HE.out.2,bs_list])
     go_wp2_with fail
     go_ret
     exact ⟨HI.out.kp,_,rfl,by rw [HFW.out]; exact own_mono HI.out.own (Nat.le_succ _)⟩
    ·
     have HLW:=hid' (show ([s1.data.toList] ++ cnd ++ [s3.data.toList]).length<=k + 2 by rw [List.length_append]; have:=HLW.out; simp only [List.length_cons,List.length_nil]; omega)
     go_wp2_with fail
     refine (ctext_any cm cx _ (HC.out.2.1.kept HI.out.kp) (HC.out.2.2.1.kept HI.out.kp)).mono ?_
     rintro e w4 ⟨hk4,rfl⟩
     have HI:=hid' (HI.out.kept hk4)
     rw [<- HSV.out]
     clear f0 f2 f3 f4 f5 f6 f7
     clear hk4
     have KA:=(Kept.refl w4).alloc (.cells #[.string sv] 9)
     go_wp2_with (at_builtin; refine wpList_append_lies _ rfl (.tmp 37) (.tmp 41) 22 rfl (w.heap.size + 1) 9 i0 (.string ByteArray.empty) 1 16 X.und_strs hi hz0 hz1 hz2 rfl (by decide) (.slice (some ⟨g4,0,none⟩) (([s1.data.toList] ++ cnd).length + 1) cap4) ([s1.data.toList] ++ cnd ++ [s3.data.toList]).length (strs ([s1.data.toList] ++ cnd ++ [s3.data.toList])) rfl (by exact (HI.out.kept KA).own) ⟨w4.heap.size,0,none⟩ 1 1 [.string sv] rfl rfl (X.cell_new w4 _ _) (fun u hu => by simp at hu; subst hu; rfl) (by omega) (by have:=HLW.out; unfold maxLen; omega) (by have:=HLW.out; omega) (by have:=HI.out.kp.size; have:=HI.out.row.lt; have:=HI.out.le; have:=HP.out; simp; omega) _ rfl ?_)
     intro g4 cap4 W4 own4 hg4 hgg _
     have HI:=hid' (HI.out.add (news:=[sv.data.toList]) KA own4 (by simp) hg4)
     clear own4 hg4 hgg KA
     have f0:=HI.out.row.cell 0 (.string s1)
     have f2:=HI.out.row.cell 2 (.string s3)
     have f3:=HI.out.row.cell 3 (.int .i64 cm)
     have f4:=HI.out.row.cell 4 (.int .i64 cx)
     have f5:=HI.out.row.cell 5 (.int .i64 ckd)
     have f6:=HI.out.row.cell 6 (.slice a2 n2 k2)
     have f7:=HI.out.row.cell 7 (.slice a3 n3 k3)
     go_wp2_with fail
     refine (among_is s1[0] ⟨#[118,105]⟩ [118,105] _ rfl).mono ?_
     rintro e WV ⟨rfl,rfl⟩
     rw [show decide (s1[0] ∈ ([118,105]:List UInt8)) = waveC s1[0] from rfl]
     rw [hw]
     have HFW:=hid' (show cwords ⟨cn,cnd,cr,(cm,cx),ckd,cvs,css⟩ = [s1.data.toList] ++ cnd ++ [s3.data.toList] ++ [sv.data.toList] by rw [HCW.out,hr,hv,hw]; simp [HE.out.2,HSV.out,bs_list])
     go_wp2_with fail
     go_ret
     exact ⟨HI.out.kp,_,rfl,by rw [HFW.out]; exact own_mono HI.out.own (Nat.le_succ _)⟩
open Q (hid' parseOf Lett ErrV Tab okN textOf)
open X (bs OwnS RS strs bs_list bs_size)
open Q (hid' parseOf Lett ErrV Tab okN textOf)
open X (bs OwnS RS strs bs_list bs_size)
open Q (hid' parseOf Lett ErrV Tab okN textOf)
open X (bs OwnS RS strs bs_list bs_size)
open Q (hid' parseOf Lett ErrV Tab okN textOf)
open X (bs OwnS RS strs bs_list bs_size)
def WrIs (B:Nat) (w:World) (e:Ending):Option (List (List UInt8))->Prop
 | none => e = .returned (.tuple #[.slice none 0 0,.int .i64 70])
 | some ws => ∃ u,e = .returned (.tuple #[u,.int .i64 0])/\OwnS B w u ws
def writeB (c:Cd) (ws:List (List UInt8)):Except Int Cd->Option (List (List UInt8))
 | .ok d => if d = c then some ws else none
 | .error _ => none
theorem writeC_dev {c:Cd} (h:devB c.name = true):writeC c = writeB c (cwords c) (readC (cwords c)):=by
 unfold writeC
 rw [if_pos h]
 cases readC (cwords c) <;> rfl
theorem len_max {B:Nat} {w:World} {e:TypeId} {sz n:Nat} {v:Value} {xs:List Value} (h:w.ownsRow B e sz v n xs):n<=9223372036854775807:=by
 obtain ⟨_,⟨_,h3⟩ | ⟨g,cap,cur,h2,_,_,hn,hm,_⟩⟩:=h
 ·
  omega
 ·
  exact Nat.le_trans hn hm
theorem own_cap {B:Nat} {w:World} {v:Value} {ws:List (List UInt8)} (h:OwnS B w v ws):∃ ao cap,v = .slice ao ws.length cap/\ws.length<=cap/\cap<=9223372036854775807:=by
 obtain ⟨_,⟨h2,h3⟩ | ⟨g,cap,cur,h2,_,_,hn,hm,_⟩⟩:=h
 ·
  exact ⟨none,0,by rw [h2,h3],by omega,by omega⟩
 ·
  exact ⟨_,_,h2,hn,hm⟩
set_option maxRecDepth 100000 in
set_option maxHeartbeats 8000000 in
theorem write_plain (a1 a2 a3:Option Addr) (n1 k1 n2 k2 n3 k3:Nat) (c:Cd) (w:World) (hL:Lett w) (hE:ErrV w) (hT:Tab w) (hc:CdR w a1 n1 k1 a2 n2 k2 a3 n3 k3 c) (hl:(n1 + 200) * 16<=140737488355328) (hw:waveC (c.name.getD 0 0) = false) (hs:∀ x ∈ cwords c,x.length<=9223372036854775807) (hsn:c.name.length<=9223372036854775807) :
  Calls Tryz.prog 11 #[cdV c (.slice a1 n1 k1) (.slice a2 n2 k2) (.slice a3 n3 k3)] w fun e w' => Kept w w'/\WrIs w.heap.size w' e (writeC c):=by
 have HC:=hid' (And.intro hc (And.intro hL (And.intro hT (And.intro hE (And.intro hw hs)))))
 obtain ⟨r,hr⟩:∃ r,r = writeC c:=⟨_,rfl⟩
 rw [<- hr]
 have HR:=hid' hr
 have hdev:=fun V => cdev_any (bs c.name) V (by rw [bs_size]; exact hsn)
 rw [bs_list] at hdev
 have hcw:=fun V (K:Kept w V) (hh:0 < c.name.length) => cardWords_plain a1 a2 a3 n1 k1 n2 k2 n3 k3 c V (hL.kept K) (hT.kept K) (hc.kept K) hh hl hw
 clear hr hc hL hE hT hw hs hsn
 obtain ⟨cn,cnd,cr,⟨cm,cx⟩,ckd,cvs,css⟩:=c
 unfold cdV at hcw ⊢
 simp only at hdev hcw ⊢
 obtain ⟨s1,hs1⟩:∃ s,s = bs cn:=⟨_,rfl⟩
 obtain ⟨s3,hs3⟩:∃ s,s = bs cr:=⟨_,rfl⟩
 rw [<- hs1,<- hs3] at hcw ⊢
 rw [<- hs1] at hdev
 have HE:=hid' (And.intro hs1 hs3)
 clear hs1 hs3
 cases hd:devB cn
 ·
  rw [hd] at hdev
  have HF:=hid' (show r = none by rw [HR.out]; unfold writeC; rw [if_neg (by rw [hd]; decide)])
  clear hcw
  go_enter Tryz.func11,Tryz.ntmps11
  go_wp2_with fail
  refine (hdev _).mono ?_
  rintro e w1 ⟨rfl,rfl⟩
  go_wp2_with fail
  go_ret2
  exact ⟨(Kept.refl _).alloc _,by rw [HF.out]; rfl⟩
 ·
  rw [hd] at hdev
  have hh:0 < cn.length:=by
   have h1:=dev_pos (s:=bs cn) (by rw [bs_list]; exact hd)
   rwa [bs_size] at h1
  have HD:=hid' hd
  have hcw2:=fun V (K:Kept w V) => hcw V K hh
  clear hcw hd hh
  go_enter Tryz.func11,Tryz.ntmps11
  go_wp2_with fail
  refine (hdev _).mono ?_
  rintro e w1 ⟨rfl,rfl⟩
  go_wp2_with fail
  have hK:=(Kept.refl w).alloc (.cells #[.string s1,.slice a1 n1 k1,.string s3,.int .i64 cm,.int .i64 cx,.int .i64 ckd,.slice a2 n2 k2,.slice a3 n3 k3] 32)
  have hA:=RowL.alloc 32 w [.string s1,.slice a1 n1 k1,.string s3,.int .i64 cm,.int .i64 cx,.int .i64 ckd,.slice a2 n2 k2,.slice a3 n3 k3]
  generalize w.alloc (.cells #[.string s1,.slice a1 n1 k1,.string s3,.int .i64 cm,.int .i64 cx,.int .i64 ckd,.slice a2 n2 k2,.slice a3 n3 k3] 32) = W0 at hK hA ⊢
  obtain ⟨p,hp⟩:∃ q,q = w.heap.size:=⟨_,rfl⟩
  rw [<- hp] at hA ⊢
  clear hp
  refine (hcw2 _ hK).mono ?_
  rintro e w2 ⟨hk2,u,rfl,ou⟩
  obtain ⟨ao,cap,rfl,hcap,hcap2⟩:=own_cap ou
  have HW:=hid' (And.intro (hK.trans hk2) (And.intro (hA.kept hk2) (And.intro (own_mono ou hK.size) ou)))
  have hrd:=readC_any ao (cwords ⟨cn,cnd,cr,(cm,cx),ckd,cvs,css⟩).length cap (cwords ⟨cn,cnd,cr,(cm,cx),ckd,cvs,css⟩) w2 (HC.out.2.1.kept HW.out.1) (HC.out.2.2.2.1.kept HW.out.1) (X.OwnS.rs ou) hcap hcap2 HC.out.2.2.2.2.2
  have HR2:=hid' (show r = writeB ⟨cn,cnd,cr,(cm,cx),ckd,cvs,css⟩ (cwords ⟨cn,cnd,cr,(cm,cx),ckd,cvs,css⟩) (readC (cwords ⟨cn,cnd,cr,(cm,cx),ckd,cvs,css⟩)) from HR.out.trans (writeC_dev HD.out))
  generalize hws:cwords ⟨cn,cnd,cr,(cm,cx),ckd,cvs,css⟩ = ws at hrd HW HR2 ⊢
  obtain ⟨n,hn⟩:∃ n,n = ws.length:=⟨_,rfl⟩
  rw [<- hn] at hrd HW ⊢
  have HNN:=hid' hn
  generalize hrc:readC ws = rc at hrd HR2
  clear hK hA hk2 ou hcw2 hdev hws hn hcap hcap2 hrc
  go_wp2_with fail
  refine hrd.mono ?_
  rintro e w3 ⟨hk3,hres⟩
  clear hrd
  have HW:=hid' (And.intro (HW.out.1.trans hk3) (And.intro (HW.out.2.1.kept hk3) (own_kept HW.out.2.2.1 (fun b hb => hk3.block b (HW.out.2.2.1.lt b hb).2))))
  clear hk3
  cases rc with
  | error x =>
   obtain ⟨rfl,hx0⟩:=hres
   have hx0':(x == 0) = false:=by simpa using hx0
   unfold zeroCd
   have HF:=hid' (show r = none from HR2.out)
   go_wp2_with fail
   go_ret2
   exact ⟨HW.out.1.alloc _,by rw [HF.out]; rfl⟩
  | ok d =>
   obtain ⟨v,rfl,nv,xv,sv,rfl,o1,o2,o3⟩:=hres
   obtain ⟨b1,l1,rfl⟩:=own_shape o1
   obtain ⟨b2,l2,rfl⟩:=own_shape o2
   obtain ⟨b3,l3,rfl⟩:=own_shape o3
   have hsm:=fun V (K:Kept w3 V) => csame_any b1 b2 b3 a1 a2 a3 d.nodes.length l1 d.vals.length l2 d.steps.length l3 n1 k1 n2 k2 n3 k3 d ⟨cn,cnd,cr,(cm,cx),ckd,cvs,css⟩ V ⟨(X.OwnS.rs o1).kept K,(OwnN.nsl o2).kept K,(OwnI.isl o3).kept K⟩ (HC.out.1.kept (HW.out.1.trans K)) (len_max o1) (len_max o2) (len_max o3)
   have HR3:=hid' (show r = if d = ⟨cn,cnd,cr,(cm,cx),ckd,cvs,css⟩ then some ws else none from HR2.out)
   generalize hdc:decide (d = ⟨cn,cnd,cr,(cm,cx),ckd,cvs,css⟩) = bb at hsm
   have HDC:=hid' hdc
   clear hdc o1 o2 o3
   obtain ⟨dn,dnd,dr,⟨dm,dx⟩,dkd,dvs,dss⟩:=d
   unfold cdV at hsm ⊢
   simp only at hsm ⊢
   rw [<- HE.out.1,<- HE.out.2] at hsm
   generalize bs dn = t1 at hsm ⊢
   generalize bs dr = t3 at hsm ⊢
   generalize dnd.length = d1 at hsm ⊢
   generalize dvs.length = d2 at hsm ⊢
   generalize dss.length = d3 at hsm ⊢
   have kB:=(Kept.refl w3).alloc (.cells #[.string t1,.slice b1 d1 l1,.string t3,.int .i64 dm,.int .i64 dx,.int .i64 dkd,.slice b2 d2 l2,.slice b3 d3 l3] 32)
   have hA:=HW.out.2.1.kept kB
   have g0:=hA.cell 0 (.string s1)
   have g1:=hA.cell 1 (.slice a1 n1 k1)
   have g2:=hA.cell 2 (.string s3)
   have g3:=hA.cell 3 (.int .i64 cm)
   have g4:=hA.cell 4 (.int .i64 cx)
   have g5:=hA.cell 5 (.int .i64 ckd)
   have g6:=hA.cell 6 (.slice a2 n2 k2)
   have g7:=hA.cell 7 (.slice a3 n3 k3)
   clear hA
   cases bb
   ·
    have HF:=hid' (show r = none by rw [HR3.out,if_neg (of_decide_eq_false HDC.out)])
    go_wp2_with fail
    refine (hsm _ kB).mono ?_
    rintro e w4 ⟨hk4,rfl⟩
    have HK:=hid' (HW.out.1.trans (kB.trans hk4))
    clear hsm kB hk4 g0 g1 g2 g3 g4 g5 g6 g7
    go_wp2_with fail
    go_ret2
    exact ⟨HK.out,by rw [HF.out]; rfl⟩
   ·
    have HF:=hid' (show r = some ws by rw [HR3.out,if_pos (of_decide_eq_true HDC.out)])
    go_wp2_with fail
    refine (hsm _ kB).mono ?_
    rintro e w4 ⟨hk4,rfl⟩
    have HK:=hid' (And.intro (HW.out.1.trans (kB.trans hk4)) (own_kept HW.out.2.2 (fun b hb => (kB.trans hk4).block b (HW.out.2.2.lt b hb).2)))
    clear hsm kB hk4 g0 g1 g2 g3 g4 g5 g6 g7
    go_wp2_with fail
    go_ret2
    exact ⟨HK.out.1,by rw [HF.out]; exact ⟨_,rfl,by unfold OwnS; rw [<- HNN.out]; exact HK.out.2⟩⟩
open Q (hid' parseOf Lett ErrV Tab okN textOf)
open X (bs OwnS RS strs bs_list bs_size)
open Q (hid' parseOf Lett ErrV Tab okN textOf)
open X (bs OwnS RS strs bs_list bs_size)
def mw (gs vs:List (Int × Int)):Nat->List (List UInt8)
 | 0 => []
 | k + 1 => mw gs vs k ++ (if k = 0 then [] else [tx (vs.getD (k - 1) (0,0))]) ++ [tx (gs.getD k (0,0))]
def mwords (m:Md):List (List UInt8):=[[46,109,111,100,101,108],m.name,[m.kind.toNat.toUInt8]] ++ mw m.gs m.vs m.gs.length
def WmIs (B:Nat) (w:World) (e:Ending) (m:Md):Prop :=
 (okM m.name m.kind m.gs m.vs = false/\e = .returned (.tuple #[.slice none 0 0,.int .i64 50])) ∨ (okM m.name m.kind m.gs m.vs = true/\∃ u,e = .returned (.tuple #[u,.int .i64 0])/\OwnS B w u (mwords m))
open Q (parseOf okN textOf)
theorem tx_back {p:Int × Int} (h:okN p.1 p.2 = true):parseOf (tx p) = (p.1,p.2,0):=by
 unfold tx
 rw [if_pos h]
 exact (Q.back h).1
open Q (parseOf okN textOf)
theorem step_itoa {s:Int} (h0:0<=s) (h1:s<=1000000000):stepT (Lib.itoa s) = (s,true):=by
 have e:Lib.itoa s = Lib.decDigits s.natAbs:=by
  rw [Q.itoa_sg,decide_eq_false (by omega)]
  rfl
 rw [e]
 have hl:(Lib.decDigits s.natAbs).length<=10:=Q.dec_len (by decide) (Nat.lt_of_le_of_lt (show s.natAbs<=1000000000 by omega) (by decide))
 have hd:=dec_dig s.natAbs
 have hv:=dec_dv s.natAbs
 have hdg:digs (Lib.decDigits s.natAbs) = true:=by
  unfold digs
  rw [Bool.not_eq_true',List.any_eq_false]
  intro c hc
  have:=hd c hc
  simp
  omega
 have hne:1<=(Lib.decDigits s.natAbs).length/\¬ ((Lib.decDigits s.natAbs).getD 0 0 = 48/\1 < (Lib.decDigits s.natAbs).length):=by
  by_cases hz:s.natAbs = 0
  ·
   rw [hz,show Lib.decDigits 0 = [48] from (plain_dec (.inl rfl)).symm]; decide
  ·
   have hn:=dec_nz s.natAbs (by omega)
   obtain ⟨c,t,hct,hc,_⟩:∃ c t,Lib.decDigits s.natAbs = c :: t/\¬ c = 48/\True:=by
    cases hl:Lib.decDigits s.natAbs with
    | nil => exact absurd hl hn.ne
    | cons c t => exact ⟨c,t,rfl,fun e => hn.head c (by rw [hl]; rfl) (by rw [e]; rfl),trivial⟩
   rw [hct]
   exact ⟨by simp,fun h => hc h.1⟩
 unfold stepT
 rw [if_pos ⟨hne.1,hl,hne.2,hdg⟩,hv]
 have e2:((s.natAbs:Nat):Int) = s:=by omega
 rw [e2,decide_eq_true h1]
def nodesN (q:UInt8) (n:Nat):Bool:=if q = 101 ∨ q = 103 ∨ q = 116 ∨ q = 115 then decide (n = 4) else if q = 120 then decide (1<=n/\n<=8) else decide (n = 2)
structure RightC (c:Cd):Prop where
 dev:devB c.name = true
 cnt:nodesN (c.name.getD 0 0) c.nodes.length = true
 nds:∀ x ∈ c.nodes,okName x = true
 ref:if refC (c.name.getD 0 0) = true then okName c.ref = true/\((c.name.getD 0 0 = 102 ∨ c.name.getD 0 0 = 104)->c.ref.getD 0 0 = 118) else c.ref = []
 val:if valueC (c.name.getD 0 0) = true then okN c.val.1 c.val.2 = true/\(zeroC (c.name.getD 0 0) = true->c.val.1 ≠ 0) else c.val = (0,0)
 wav:if waveC (c.name.getD 0 0) = true then okW c.kind c.vals c.steps = true else c.kind = 0/\c.vals = []/\c.steps = []
theorem read_at {n:List UInt8} {t:List (List UInt8)} {q:UInt8} (hd:devB n = true) (hq:n.getD 0 0 = q) (hl:0 < n.length):readC (n :: t) = readB (n :: t) (partsOf (n :: t) (cshape q (n :: t))):=by
 have:=readC_dev (ws:=n :: t) hl hd
 rw [this,show headC (n :: t) = q from hq]
theorem right_rcl (c:Cd) (h:RightC c) (q:UInt8) (hq:c.name.getD 0 0 = q) (hg:q = 114 ∨ q = 99 ∨ q = 108) (hl:0 < c.name.length):readC (cwords c) = .ok c:=by
 obtain ⟨n,nds,r,v,k,vs,ss⟩:=c
 obtain ⟨h1,h2,h3,h4,h5,h6⟩:=h
 simp only at h1 h2 h3 h4 h5 h6 hq hl
 rw [hq] at h2 h4 h5 h6
 have hc:refC q = false/\valueC q = true/\waveC q = false/\zeroC q = true:=by rcases hg with rfl | rfl | rfl <;> decide
 have hn:nodesN q nds.length = decide (nds.length = 2):=by rcases hg with rfl | rfl | rfl <;> rfl
 rw [hn] at h2
 have hlen:=of_decide_eq_true h2
 match nds,hlen with
 | [a,b],_ =>
  rw [hc.1] at h4
  rw [hc.2.1] at h5
  rw [hc.2.2.1] at h6
  simp only [Bool.false_eq_true,if_false,if_true] at h4 h5 h6
  obtain ⟨rfl,rfl,rfl⟩:=h6
  subst h4
  have ha:=h3 a (by simp)
  have hb:=h3 b (by simp)
  have hv:=tx_back h5.1
  have hw:cwords ⟨n,[a,b],[],v,0,[],[]⟩ = [n,a,b,tx v]:=by unfold cwords; simp only [hq,hc.1,hc.2.1,hc.2.2.1]; simp
  have hs:cshape q [n,a,b,tx v] = [46,110,110,120]:=by rcases hg with rfl | rfl | rfl <;> rfl
  rw [hw,read_at h1 hq hl,hs]
  have hp:partsOf [n,a,b,tx v] [46,110,110,120] = .ok ⟨[a,b],[],[v],[]⟩:=by
   simp [partsOf,nmAll,nmStep,nuAll,nuStep,ha,hb,hv,Pt.zero]
  rw [hp]
  show endC (cardS _ _) = _
  have hcd:cardS [n,a,b,tx v] ⟨[a,b],[],[v],[]⟩ = ⟨n,[a,b],[],v,0,[],[]⟩:=by
   unfold cardS
   rw [show headC [n,a,b,tx v] = q from hq,hc.2.2.1,hc.2.1]
   rfl
  rw [hcd]
  unfold endC
  simp only [hq,hc.2.2.1,hc.2.2.2]
  rw [if_neg (fun e => h5.2 hc.2.2.2 (by rw [e.2])),if_neg (fun e => by cases e.1)]
open Q (parseOf okN textOf)
theorem right_egt (c:Cd) (h:RightC c) (q:UInt8) (hq:c.name.getD 0 0 = q) (hg:q = 101 ∨ q = 103 ∨ q = 116) (hl:0 < c.name.length):readC (cwords c) = .ok c:=by
 obtain ⟨n,nds,r,v,k,vs,ss⟩:=c
 obtain ⟨h1,h2,h3,h4,h5,h6⟩:=h
 simp only at h1 h2 h3 h4 h5 h6 hq hl
 rw [hq] at h2 h4 h5 h6
 have hc:refC q = false/\valueC q = true/\waveC q = false/\zeroC q = false:=by rcases hg with rfl | rfl | rfl <;> decide
 have hn:nodesN q nds.length = decide (nds.length = 4):=by rcases hg with rfl | rfl | rfl <;> rfl
 rw [hn] at h2
 have hlen:=of_decide_eq_true h2
 match nds,hlen with
 | [a,b,d,e],_ =>
  rw [hc.1] at h4
  rw [hc.2.1] at h5
  rw [hc.2.2.1] at h6
  simp only [Bool.false_eq_true,if_false,if_true] at h4 h5 h6
  obtain ⟨rfl,rfl,rfl⟩:=h6
  subst h4
  have ha:=h3 a (by simp)
  have hb:=h3 b (by simp)
  have hd:=h3 d (by simp)
  have he:=h3 e (by simp)
  have hv:=tx_back h5.1
  have hw:cwords ⟨n,[a,b,d,e],[],v,0,[],[]⟩ = [n,a,b,d,e,tx v]:=by unfold cwords; simp only [hq,hc.1,hc.2.1,hc.2.2.1]; simp
  have hs:cshape q [n,a,b,d,e,tx v] = [46,110,110,110,110,120]:=by rcases hg with rfl | rfl | rfl <;> rfl
  rw [hw,read_at h1 hq hl,hs]
  have hp:partsOf [n,a,b,d,e,tx v] [46,110,110,110,110,120] = .ok ⟨[a,b,d,e],[],[v],[]⟩:=by
   simp [partsOf,nmAll,nmStep,nuAll,nuStep,ha,hb,hd,he,hv,Pt.zero]
  rw [hp]
  show endC (cardS _ _) = _
  have hcd:cardS [n,a,b,d,e,tx v] ⟨[a,b,d,e],[],[v],[]⟩ = ⟨n,[a,b,d,e],[],v,0,[],[]⟩:=by
   unfold cardS
   rw [show headC [n,a,b,d,e,tx v] = q from hq,hc.2.2.1,hc.2.1]
   rfl
  rw [hcd]
  unfold endC
  simp only [hq,hc.2.2.1,hc.2.2.2]
  rw [if_neg (fun e => by cases e.1),if_neg (fun e => by cases e.1)]
theorem right_fh (c:Cd) (h:RightC c) (q:UInt8) (hq:c.name.getD 0 0 = q) (hg:q = 102 ∨ q = 104) (hl:0 < c.name.length):readC (cwords c) = .ok c:=by
 obtain ⟨n,nds,r,v,k,vs,ss⟩:=c
 obtain ⟨h1,h2,h3,h4,h5,h6⟩:=h
 simp only at h1 h2 h3 h4 h5 h6 hq hl
 rw [hq] at h2 h4 h5 h6
 have hc:refC q = true/\valueC q = true/\waveC q = false/\zeroC q = false:=by rcases hg with rfl | rfl <;> decide
 have hn:nodesN q nds.length = decide (nds.length = 2):=by rcases hg with rfl | rfl <;> rfl
 rw [hn] at h2
 have hlen:=of_decide_eq_true h2
 match nds,hlen with
 | [a,b],_ =>
  rw [hc.1] at h4
  rw [hc.2.1] at h5
  rw [hc.2.2.1] at h6
  simp only [Bool.false_eq_true,if_false,if_true] at h4 h5 h6
  obtain ⟨rfl,rfl,rfl⟩:=h6
  have ha:=h3 a (by simp)
  have hb:=h3 b (by simp)
  have hr0:=h4.2 (by rcases hg with rfl | rfl <;> decide)
  have hdv:devB r = true:=by
   unfold devB
   rw [h4.1,hr0]
   rfl
  have hr0:r[0]?.getD 0 = 118:=by rw [<- List.getD_eq_getElem?_getD]; exact hr0
  have hv:=tx_back h5.1
  have hw:cwords ⟨n,[a,b],r,v,0,[],[]⟩ = [n,a,b,r,tx v]:=by unfold cwords; simp only [hq,hc.1,hc.2.1,hc.2.2.1]; simp
  have hs:cshape q [n,a,b,r,tx v] = [46,110,110,118,120]:=by rcases hg with rfl | rfl <;> rfl
  rw [hw,read_at h1 hq hl,hs]
  have hp:partsOf [n,a,b,r,tx v] [46,110,110,118,120] = .ok ⟨[a,b],r,[v],[]⟩:=by
   simp [partsOf,nmAll,nmStep,nuAll,nuStep,ha,hb,hdv,hr0,hv,Pt.zero]
  rw [hp]
  show endC (cardS _ _) = _
  have hcd:cardS [n,a,b,r,tx v] ⟨[a,b],r,[v],[]⟩ = ⟨n,[a,b],r,v,0,[],[]⟩:=by
   unfold cardS
   rw [show headC [n,a,b,r,tx v] = q from hq,hc.2.2.1,hc.2.1]
   rfl
  rw [hcd]
  unfold endC
  simp only [hq,hc.2.2.1,hc.2.2.2]
  rw [if_neg (fun e => by cases e.1),if_neg (fun e => by cases e.1)]
theorem right_d (c:Cd) (h:RightC c) (q:UInt8) (hq:c.name.getD 0 0 = q) (hg:q = 100) (hl:0 < c.name.length):readC (cwords c) = .ok c:=by
 obtain ⟨n,nds,r,v,k,vs,ss⟩:=c
 obtain ⟨h1,h2,h3,h4,h5,h6⟩:=h
 simp only at h1 h2 h3 h4 h5 h6 hq hl
 rw [hq] at h2 h4 h5 h6
 have hc:refC q = true/\valueC q = false/\waveC q = false/\zeroC q = false:=by subst hg; decide
 have hn:nodesN q nds.length = decide (nds.length = 2):=by subst hg; rfl
 rw [hn] at h2
 have hlen:=of_decide_eq_true h2
 match nds,hlen with
 | [a,b],_ =>
  rw [hc.1] at h4
  rw [hc.2.1] at h5
  rw [hc.2.2.1] at h6
  simp only [Bool.false_eq_true,if_false,if_true] at h4 h5 h6
  obtain ⟨rfl,rfl,rfl⟩:=h6
  subst h5
  have ha:=h3 a (by simp)
  have hb:=h3 b (by simp)
  have hr:=h4.1
  have hw:cwords ⟨n,[a,b],r,(0,0),0,[],[]⟩ = [n,a,b,r]:=by unfold cwords; simp only [hq,hc.1,hc.2.1,hc.2.2.1]; simp
  have hs:cshape q [n,a,b,r] = [46,110,110,109]:=by subst hg; rfl
  rw [hw,read_at h1 hq hl,hs]
  have hp:partsOf [n,a,b,r] [46,110,110,109] = .ok ⟨[a,b],r,[],[]⟩:=by
   simp [partsOf,nmAll,nmStep,nuAll,nuStep,ha,hb,hr,Pt.zero]
  rw [hp]
  show endC (cardS _ _) = _
  have hcd:cardS [n,a,b,r] ⟨[a,b],r,[],[]⟩ = ⟨n,[a,b],r,(0,0),0,[],[]⟩:=by
   unfold cardS
   rw [show headC [n,a,b,r] = q from hq,hc.2.2.1,hc.2.1]
   rfl
  rw [hcd]
  unfold endC
  simp only [hq,hc.2.2.1,hc.2.2.2]
  rw [if_neg (fun e => by cases e.1),if_neg (fun e => by cases e.1)]
theorem right_s (c:Cd) (h:RightC c) (q:UInt8) (hq:c.name.getD 0 0 = q) (hg:q = 115) (hl:0 < c.name.length):readC (cwords c) = .ok c:=by
 obtain ⟨n,nds,r,v,k,vs,ss⟩:=c
 obtain ⟨h1,h2,h3,h4,h5,h6⟩:=h
 simp only at h1 h2 h3 h4 h5 h6 hq hl
 rw [hq] at h2 h4 h5 h6
 have hc:refC q = true/\valueC q = false/\waveC q = false/\zeroC q = false:=by subst hg; decide
 have hn:nodesN q nds.length = decide (nds.length = 4):=by subst hg; rfl
 rw [hn] at h2
 have hlen:=of_decide_eq_true h2
 match nds,hlen with
 | [a,b,d,e],_ =>
  rw [hc.1] at h4
  rw [hc.2.1] at h5
  rw [hc.2.2.1] at h6
  simp only [Bool.false_eq_true,if_false,if_true] at h4 h5 h6
  obtain ⟨rfl,rfl,rfl⟩:=h6
  subst h5
  have ha:=h3 a (by simp)
  have hb:=h3 b (by simp)
  have hd:=h3 d (by simp)
  have he:=h3 e (by simp)
  have hr:=h4.1
  have hw:cwords ⟨n,[a,b,d,e],r,(0,0),0,[],[]⟩ = [n,a,b,d,e,r]:=by unfold cwords; simp only [hq,hc.1,hc.2.1,hc.2.2.1]; simp
  have hs:cshape q [n,a,b,d,e,r] = [46,110,110,110,110,109]:=by subst hg; rfl
  rw [hw,read_at h1 hq hl,hs]
  have hp:partsOf [n,a,b,d,e,r] [46,110,110,110,110,109] = .ok ⟨[a,b,d,e],r,[],[]⟩:=by
   simp [partsOf,nmAll,nmStep,nuAll,nuStep,ha,hb,hd,he,hr,Pt.zero]
  rw [hp]
  show endC (cardS _ _) = _
  have hcd:cardS [n,a,b,d,e,r] ⟨[a,b,d,e],r,[],[]⟩ = ⟨n,[a,b,d,e],r,(0,0),0,[],[]⟩:=by
   unfold cardS
   rw [show headC [n,a,b,d,e,r] = q from hq,hc.2.2.1,hc.2.1]
   rfl
  rw [hcd]
  unfold endC
  simp only [hq,hc.2.2.1,hc.2.2.2]
  rw [if_neg (fun e => by cases e.1),if_neg (fun e => by cases e.1)]
open Q (parseOf okN textOf)
theorem nm_skip:∀ (zs:List (UInt8 × List UInt8)) (p:Pt),(∀ z ∈ zs,z.1 ≠ 110/\z.1 ≠ 109/\z.1 ≠ 118)->nmAll p zs = some p
 | [],_,_ => rfl
 | z :: t,p,h => by
  have hz:=h z (by simp)
  rw [nmAll,nm_no hz.1 hz.2.1 hz.2.2]
  exact nm_skip t p (fun y hy => h y (by simp [hy]))
theorem nu_skip:∀ (zs:List (UInt8 × List UInt8)) (p:Pt),(∀ z ∈ zs,z.1 ≠ 120/\z.1 ≠ 115)->nuAll p zs = .ok p
 | [],_,_ => rfl
 | z :: t,p,h => by
  have hz:=h z (by simp)
  rw [nuAll,nu_no hz.1 hz.2]
  exact nu_skip t p (fun y hy => h y (by simp [hy]))
theorem nm_nodes:∀ (nds:List (List UInt8)) (p:Pt) (t:List (UInt8 × List UInt8)),(∀ x ∈ nds,okName x = true)->nmAll p ((List.replicate nds.length 110).zip nds ++ t) = nmAll { p with nodes:=p.nodes ++ nds } t
 | [],p,t,_ => by simp
 | a :: nds,p,t,h => by
  have ha:=h a (by simp)
  have ih:=nm_nodes nds { p with nodes:=p.nodes ++ [a] } t (fun x hx => h x (by simp [hx]))
  simp only [List.length_cons,List.replicate_succ,List.zip_cons_cons,List.cons_append]
  rw [nmAll]
  have hs:nmStep p 110 a = some { p with nodes:=p.nodes ++ [a] }:=by simp [nmStep,ha]
  simp only [hs,ih,List.append_assoc,List.singleton_append]
theorem nu_vals:∀ (vs:List (Int × Int)) (p:Pt) (t:List (UInt8 × List UInt8)),(∀ v ∈ vs,okN v.1 v.2 = true)->nuAll p ((List.replicate vs.length 120).zip (vs.map tx) ++ t) = nuAll { p with nums:=p.nums ++ vs } t
 | [],p,t,_ => by simp
 | a :: vs,p,t,h => by
  have ha:=tx_back (h a (by simp))
  have ih:=nu_vals vs { p with nums:=p.nums ++ [a] } t (fun x hx => h x (by simp [hx]))
  simp only [List.length_cons,List.replicate_succ,List.map_cons,List.zip_cons_cons,List.cons_append]
  rw [nuAll]
  have hs:nuStep p 120 (tx a) = .ok { p with nums:=p.nums ++ [a] }:=by simp [nuStep,ha]
  simp only [hs,ih,List.append_assoc,List.singleton_append]
theorem nu_pwl:∀ (vs:List (Int × Int)) (ss:List Int) (p:Pt),vs.length = ss.length->(∀ v ∈ vs,okN v.1 v.2 = true)->(∀ s ∈ ss,0<=s/\s<=1000000000)->nuAll p ((Lib.repeatL [115,120] vs.length).zip (pwlW vs ss)) = .ok { p with nums:=p.nums ++ vs,steps:=p.steps ++ ss }
 | [],[],p,_,_,_ => by simp [pwlW,Lib.repeatL,nuAll]
 | [],_ :: _,_,h,_,_ => by simp at h
 | _ :: _,[],_,h,_,_ => by simp at h
 | a :: vs,b :: ss,p,h,hv,hs => by
  have ha:=tx_back (hv a (by simp))
  have hb:=step_itoa (hs b (by simp)).1 (hs b (by simp)).2
  have ih:=nu_pwl vs ss { p with nums:=p.nums ++ [a],steps:=p.steps ++ [b] } (by simpa using h) (fun x hx => hv x (by simp [hx])) (fun x hx => hs x (by simp [hx]))
  have e:Lib.repeatL [115,120] (a :: vs).length = 115 :: 120 :: Lib.repeatL [115,120] vs.length:=rfl
  rw [e,pwlW,List.zip_cons_cons,List.zip_cons_cons,nuAll]
  have h1:nuStep p 115 (Lib.itoa b) = .ok { p with steps:=p.steps ++ [b] }:=by simp [nuStep,hb]
  simp only [h1]
  rw [nuAll]
  have h2:nuStep { p with steps:=p.steps ++ [b] } 120 (tx a) = .ok { p with nums:=p.nums ++ [a],steps:=p.steps ++ [b] }:=by simp [nuStep,ha]
  simp only [h2,ih,List.append_assoc,List.singleton_append]
theorem right_x (c:Cd) (h:RightC c) (hq:c.name.getD 0 0 = 120) (hl:0 < c.name.length):readC (cwords c) = .ok c:=by
 obtain ⟨n,nds,r,v,k,vs,ss⟩:=c
 obtain ⟨h1,h2,h3,h4,h5,h6⟩:=h
 simp only at h1 h2 h3 h4 h5 h6 hq hl
 rw [hq] at h2 h4 h5 h6
 have hc:refC 120 = true/\valueC 120 = false/\waveC 120 = false/\zeroC 120 = false:=by decide
 have hn:nodesN 120 nds.length = decide (1<=nds.length/\nds.length<=8):=rfl
 rw [hn] at h2
 have hlen:=of_decide_eq_true h2
 rw [hc.1] at h4
 rw [hc.2.1] at h5
 rw [hc.2.2.1] at h6
 simp only [Bool.false_eq_true,if_false,if_true] at h4 h5 h6
 obtain ⟨rfl,rfl,rfl⟩:=h6
 subst h5
 have hw:cwords ⟨n,nds,r,(0,0),0,[],[]⟩ = n :: (nds ++ [r]):=by unfold cwords; simp only [hq,hc.1,hc.2.1,hc.2.2.1]; simp
 have hs:cshape 120 (n :: (nds ++ [r])) = 46 :: (List.replicate nds.length 110 ++ [109]):=by
  unfold cshape
  rw [if_neg (by decide),if_neg (by decide),if_neg (by decide),if_neg (by decide),if_neg (by decide),if_pos rfl,rep_one]
  congr 3
  simp only [List.length_cons,List.length_append,List.length_nil]
  omega
 rw [hw,read_at h1 hq hl,hs]
 have hz:(46 :: (List.replicate nds.length 110 ++ [109]):List UInt8).zip (n :: (nds ++ [r])) = (46,n) :: ((List.replicate nds.length (110:UInt8)).zip nds ++ [(109,r)]):=by
  rw [List.zip_cons_cons,List.zip_append (by simp)]
  rfl
 have hp:partsOf (n :: (nds ++ [r])) (46 :: (List.replicate nds.length 110 ++ [109])) = .ok ⟨nds,r,[],[]⟩:=by
  unfold partsOf
  rw [if_neg (by simp),hz,nmAll]
  have h46:nmStep Pt.zero 46 n = some Pt.zero:=nm_no (by decide) (by decide) (by decide)
  simp only [h46]
  rw [nm_nodes nds Pt.zero _ h3]
  have h109:nmAll { Pt.zero with nodes:=Pt.zero.nodes ++ nds } [(109,r)] = some ⟨nds,r,[],[]⟩:=by simp [nmAll,nmStep,h4.1,Pt.zero]
  rw [h109]
  refine nu_skip _ _ (fun z hz => ?_)
  rcases List.mem_cons.1 hz with rfl | hz
  ·
   simp
  rcases List.mem_append.1 hz with hz | hz
  ·
   have:=List.of_mem_zip hz
   have h1:=List.eq_of_mem_replicate this.1
   rw [h1]; decide
  ·
   rw [List.mem_singleton] at hz; subst hz; simp
 rw [hp]
 show endC (cardS _ _) = _
 have hcd:cardS (n :: (nds ++ [r])) ⟨nds,r,[],[]⟩ = ⟨n,nds,r,(0,0),0,[],[]⟩:=by
  unfold cardS
  rw [show headC (n :: (nds ++ [r])) = 120 from hq,hc.2.2.1,hc.2.1]
  rfl
 rw [hcd]
 unfold endC
 simp only [hq,hc.2.2.1,hc.2.2.2]
 rw [if_neg (fun e => by cases e.1),if_neg (fun e => by cases e.1)]
open Q (parseOf okN textOf)
theorem okW_fit {k:Int} {vs:List (Int × Int)} {ss:List Int} (h:okW k vs ss = true):((k = 1/\vs.length = 1/\ss.length = 0) ∨ (k = 2/\vs.length = 2/\ss.length = 5) ∨ (k = 3/\1<=vs.length/\vs.length<=16/\ss.length = vs.length) ∨ (k = 4/\1<=vs.length/\vs.length<=16/\ss.length = 0))/\(∀ v ∈ vs,okN v.1 v.2 = true)/\∀ s ∈ ss,0<=s/\s<=1000000000:=by
 unfold okW fitsB at h
 simp only [Bool.and_eq_true,Bool.or_eq_true,beq_iff_eq,decide_eq_true_eq] at h
 refine ⟨by omega,fun v hv => List.all_eq_true.1 h.1.2.1 v hv,fun s hs => ?_⟩
 have:=List.all_eq_true.1 h.1.2.2 s hs
 unfold okS at this
 exact of_decide_eq_true this
theorem rep_mem:∀ m,∀ c ∈ Lib.repeatL [115,120] m,c = 120 ∨ c = 115
 | 0 => by simp [Lib.repeatL]
 | m + 1 => by
  intro c hc
  have e:Lib.repeatL [115,120] (m + 1) = 115 :: 120 :: Lib.repeatL [115,120] m:=rfl
  rw [e] at hc
  rcases List.mem_cons.1 hc with rfl | hc
  ·
   exact .inr rfl
  rcases List.mem_cons.1 hc with rfl | hc
  ·
   exact .inl rfl
  ·
   exact rep_mem m c hc
theorem wave_end {n a b kw:List UInt8} {t:List (List UInt8)} {q:UInt8} {sh:List UInt8} {k:Int} {vs:List (Int × Int)} {ss:List Int} (hd:devB n = true) (hq:n.getD 0 0 = q) (hg:q = 118 ∨ q = 105) (hl:0 < n.length) (ha:okName a = true) (hb:okName b = true)
  (hs:wshape (kw :: t) = 46 :: sh) (hlen:sh.length = t.length) (hsk:∀ c ∈ sh,c = 120 ∨ c = 115) (hk:wkindL kw = k) (hok:okW k vs ss = true) (hnu:nuAll ⟨[a,b],[],[],[]⟩ (sh.zip t) = .ok ⟨[a,b],[],vs,ss⟩) :
  readC (n :: a :: b :: kw :: t) = .ok ⟨n,[a,b],[],(0,0),k,vs,ss⟩:=by
 have hw:waveC q = true:=by rcases hg with rfl | rfl <;> decide
 have hz:zeroC q = false:=by rcases hg with rfl | rfl <;> decide
 have hsh:cshape q (n :: a :: b :: kw :: t) = 46 :: 110 :: 110 :: 46 :: sh:=by
  unfold cshape
  rw [if_pos (by rcases hg with rfl | rfl <;> simp)]
  show [46,110,110] ++ wshape (kw :: t) = _
  rw [hs]
  rfl
 have hp:partsOf (n :: a :: b :: kw :: t) (46 :: 110 :: 110 :: 46 :: sh) = .ok ⟨[a,b],[],vs,ss⟩:=by
  unfold partsOf
  rw [if_neg (by simp [hlen])]
  have hz4:(46 :: 110 :: 110 :: 46 :: sh).zip (n :: a :: b :: kw :: t) = (46,n) :: (110,a) :: (110,b) :: (46,kw) :: sh.zip t:=rfl
  have hnm:nmAll Pt.zero ((46,n) :: (110,a) :: (110,b) :: (46,kw) :: sh.zip t) = some ⟨[a,b],[],[],[]⟩:=by
   have h1:∀ p:Pt,∀ x,nmStep p 46 x = some p:=fun p x => nm_no (by decide) (by decide) (by decide)
   have h2:nmStep Pt.zero 110 a = some ⟨[a],[],[],[]⟩:=by simp [nmStep,ha,Pt.zero]
   have h3:nmStep ⟨[a],[],[],[]⟩ 110 b = some ⟨[a,b],[],[],[]⟩:=by simp [nmStep,hb]
   simp only [nmAll,h1,h2,h3]
   refine nm_skip _ _ (fun z hz => ?_)
   have:=hsk z.1 (List.of_mem_zip hz).1
   rcases this with e | e <;> rw [e] <;> decide
  rw [hz4,hnm]
  have h4:∀ p:Pt,∀ x,nuStep p 46 x = .ok p:=fun p x => nu_no (by decide) (by decide)
  have h5:∀ p:Pt,∀ x,nuStep p 110 x = .ok p:=fun p x => nu_no (by decide) (by decide)
  simp only [nuAll,h4,h5]
  exact hnu
 rw [read_at hd hq hl,hsh,hp]
 show endC (cardS _ _) = _
 have hcd:cardS (n :: a :: b :: kw :: t) ⟨[a,b],[],vs,ss⟩ = ⟨n,[a,b],[],(0,0),k,vs,ss⟩:=by
  unfold cardS
  rw [show headC (n :: a :: b :: kw :: t) = q from hq,hw,<- hk]
  rfl
 rw [hcd]
 unfold endC
 simp only [hq,hw,hz,hok]
 rw [if_neg (fun e => by cases e.1),if_neg (fun e => by cases e.2)]
theorem right_vi (c:Cd) (h:RightC c) (q:UInt8) (hq:c.name.getD 0 0 = q) (hg:q = 118 ∨ q = 105) (hl:0 < c.name.length):readC (cwords c) = .ok c:=by
 obtain ⟨n,nds,r,v,k,vs,ss⟩:=c
 obtain ⟨h1,h2,h3,h4,h5,h6⟩:=h
 simp only at h1 h2 h3 h4 h5 h6 hq hl
 rw [hq] at h2 h4 h5 h6
 have hc:refC q = false/\valueC q = false/\waveC q = true:=by rcases hg with rfl | rfl <;> decide
 have hn:nodesN q nds.length = decide (nds.length = 2):=by rcases hg with rfl | rfl <;> rfl
 rw [hn] at h2
 have hlen:=of_decide_eq_true h2
 match nds,hlen with
 | [a,b],_ =>
  rw [hc.1] at h4
  rw [hc.2.1] at h5
  rw [hc.2.2] at h6
  simp only [Bool.false_eq_true,if_false,if_true] at h4 h5 h6
  subst h4 h5
  have ha:=h3 a (by simp)
  have hb:=h3 b (by simp)
  obtain ⟨hf,hV,hS⟩:=okW_fit h6
  have hw:cwords ⟨n,[a,b],[],(0,0),k,vs,ss⟩ = n :: a :: b :: wwords k vs ss:=by unfold cwords; simp only [hq,hc.1,hc.2.1,hc.2.2]; simp
  rw [hw]
  have hwk:wwords k vs ss = if k = 2 then [112,117,108,115,101] :: obo vs ss else if k = 3 then [112,119,108] :: pwlW vs ss else if k = 4 then [116,97,98,108,101] :: obo vs ss else [100,99] :: obo vs ss:=by
   unfold wwords
   rw [if_neg (by rw [h6]; decide)]
  rw [hwk]
  rcases hf with ⟨rfl,hv,hs⟩ | ⟨rfl,hv,hs⟩ | ⟨rfl,hv1,hv2,hs⟩ | ⟨rfl,hv1,hv2,hs⟩
  ·
   match vs,ss,hv,hs with
   | [v0],[],_,_ =>
    have b0:=tx_back (hV v0 (by simp))
    refine wave_end (sh:=[120]) h1 hq hg hl ha hb rfl rfl (by simp) rfl h6 ?_
    simp [obo,nuAll,nuStep,b0]
  ·
   match vs,ss,hv,hs with
   | [v0,v1],[s0,s1,s2,s3,s4],_,_ =>
    have b0:=tx_back (hV v0 (by simp))
    have b1:=tx_back (hV v1 (by simp))
    have c0:=step_itoa (hS s0 (by simp)).1 (hS s0 (by simp)).2
    have c1:=step_itoa (hS s1 (by simp)).1 (hS s1 (by simp)).2
    have c2:=step_itoa (hS s2 (by simp)).1 (hS s2 (by simp)).2
    have c3:=step_itoa (hS s3 (by simp)).1 (hS s3 (by simp)).2
    have c4:=step_itoa (hS s4 (by simp)).1 (hS s4 (by simp)).2
    refine wave_end (sh:=[120,120,115,115,115,115,115]) h1 hq hg hl ha hb rfl rfl (by simp) rfl h6 ?_
    simp [obo,nuAll,nuStep,b0,b1,c0,c1,c2,c3,c4]
  ·
   have hpl:(pwlW vs ss).length = 2 * vs.length:=by
    have:∀ (vs:List (Int × Int)) (ss:List Int),ss.length = vs.length->(pwlW vs ss).length = 2 * vs.length:=by
     intro vs
     induction vs with
     | nil => intro ss _; simp [pwlW]
     | cons v vs ih =>
      intro ss h
      cases ss with
      | nil => simp at h
      | cons s ss =>
       have:=ih ss (by simpa using h)
       simp only [pwlW,List.length_cons]
       omega
    exact this vs ss hs
   show readC (n :: a :: b :: [112,119,108] :: pwlW vs ss) = _
   refine wave_end (sh:=Lib.repeatL [115,120] vs.length) h1 hq hg hl ha hb ?_ ?_ ?_ rfl h6 ?_
   ·
    show wshape ([112,119,108] :: pwlW vs ss) = _
    rw [wshape,if_neg (by decide),if_neg (by decide),if_pos rfl,hpl,show min (max (2 * vs.length / 2) 1) 16 = vs.length by omega]
   ·
    show _ = (pwlW vs ss).length
    rw [rep_len,hpl]
    simp only [List.length_cons,List.length_nil]
    omega
   ·
    exact rep_mem vs.length
   ·
    exact nu_pwl vs ss ⟨[a,b],[],[],[]⟩ hs.symm hV hS
  ·
   have hss:ss = []:=List.eq_nil_of_length_eq_zero hs
   subst hss
   have ho:obo vs [] = vs.map tx:=by simp [obo]
   refine wave_end (sh:=List.replicate vs.length 120) h1 hq hg hl ha hb ?_ ?_ ?_ rfl h6 ?_
   ·
    show wshape ([116,97,98,108,101] :: obo vs []) = _
    rw [wshape,if_neg (by decide),if_neg (by decide),if_neg (by decide),if_pos rfl,ho,List.length_map,show min (max vs.length 1) 16 = vs.length by omega,rep_one]
   ·
    show _ = (obo vs []).length
    rw [ho]
    simp
   ·
    intro c hc
    exact .inl (List.eq_of_mem_replicate hc)
   ·
    show nuAll _ ((List.replicate vs.length 120).zip (obo vs [])) = _
    rw [ho]
    have:=nu_vals vs ⟨[a,b],[],[],[]⟩ [] hV
    rw [List.append_nil] at this
    rw [this]
    simp [nuAll]
theorem dev_len {n:List UInt8} (h:devB n = true):0 < n.length:=by
 have h1:=dev_pos (s:=X.bs n) (by rw [X.bs_list]; exact h)
 rwa [X.bs_size] at h1
theorem dev_kind {n:List UInt8} (h:devB n = true):n.getD 0 0 ∈ kindsL:=by
 unfold devB at h
 have h2:=(Bool.and_eq_true _ _ ▸ h).2
 exact (ib_mem' _ _).1 (of_decide_eq_true h2)
theorem right_read (c:Cd) (h:RightC c):readC (cwords c) = .ok c:=by
 have hl:=dev_len h.dev
 have hk:=dev_kind h.dev
 unfold kindsL at hk
 simp only [List.mem_cons,List.not_mem_nil,or_false] at hk
 rcases hk with e | e | e | e | e | e | e | e | e | e | e | e | e
 ·
  exact right_rcl c h _ e (by decide) hl
 ·
  exact right_rcl c h _ e (by decide) hl
 ·
  exact right_rcl c h _ e (by decide) hl
 ·
  exact right_vi c h _ e (by decide) hl
 ·
  exact right_vi c h _ e (by decide) hl
 ·
  exact right_egt c h _ e (by decide) hl
 ·
  exact right_egt c h _ e (by decide) hl
 ·
  exact right_fh c h _ e (by decide) hl
 ·
  exact right_fh c h _ e (by decide) hl
 ·
  exact right_egt c h _ e (by decide) hl
 ·
  exact right_d c h _ e rfl hl
 ·
  exact right_s c h _ e rfl hl
 ·
  exact right_x c h e hl
open Q (parseOf okN textOf)
structure NmInv (p q:Pt) (cs:List UInt8):Prop where
 cnt:q.nodes.length = p.nodes.length + cs.count 110
 nds:∀ x ∈ q.nodes,x ∈ p.nodes ∨ okName x = true
 nam:q.name = p.name ∨ okName q.name = true
 same:109 ∉ cs->118 ∉ cs->q.name = p.name
 got:(109 ∈ cs ∨ 118 ∈ cs)->okName q.name = true
 v:118 ∈ cs->109 ∉ cs->q.name.getD 0 0 = 118
theorem dev_name {x:List UInt8} (h:devB x = true):okName x = true:=by
 unfold devB at h
 exact (Bool.and_eq_true _ _ ▸ h).1
theorem nm_inv:∀ (zs:List (UInt8 × List UInt8)) (p q:Pt),nmAll p zs = some q->NmInv p q (zs.map (·.1))
 | [],p,q,h => by
  cases h
  exact ⟨by simp,fun x hx => .inl hx,.inl rfl,fun _ _ => rfl,fun h => by simp at h,fun h => by simp at h⟩
 | (c,x) :: t,p,q,h => by
  rw [nmAll] at h
  cases hs:nmStep p c x with
  | none => simp only [hs] at h; cases h
  | some r =>
   simp only [hs] at h
   have ih:=nm_inv t r q h
   unfold nmStep at hs
   by_cases h1:c = 110
   ·
    subst h1
    rw [if_pos rfl] at hs
    split at hs
    ·
     rename_i hx
     cases hs
     refine ⟨?_,fun y hy => ?_,ih.nam,fun a b => ih.same (fun e => a (by simp [e])) (fun e => b (by simp [e])),fun a => ih.got (by simpa using a),fun a b => ih.v (by simpa using a) (fun e => b (by simp [e]))⟩
     ·
      have:=ih.cnt; simp only [List.length_append,List.length_cons,List.length_nil,List.map_cons,List.count_cons_self] at this ⊢; omega
     ·
      rcases ih.nds y hy with e | e
      ·
       rcases List.mem_append.1 e with e | e
       ·
        exact .inl e
       ·
        rw [List.mem_singleton.1 e]; exact .inr hx
      ·
       exact .inr e
    ·
     cases hs
   rw [if_neg h1] at hs
   have hcn:∀ l:List UInt8,(c :: l).count 110 = l.count 110:=fun l => by rw [List.count_cons_of_ne h1]
   by_cases h2:c = 109
   ·
    subst h2
    rw [if_pos rfl] at hs
    split at hs
    ·
     rename_i hx
     cases hs
     refine ⟨?_,ih.nds,?_,fun a => absurd (by simp) a,fun _ => ?_,fun _ b => absurd (by simp) b⟩
     ·
      have:=ih.cnt; rw [List.map_cons,hcn]; exact this
     ·
      rcases ih.nam with e | e
      ·
       rw [e]; exact .inr hx
      ·
       exact .inr e
     ·
      rcases ih.nam with e | e
      ·
       rw [e]; exact hx
      ·
       exact e
    ·
     cases hs
   rw [if_neg h2] at hs
   by_cases h3:c = 118
   ·
    subst h3
    rw [if_pos rfl] at hs
    split at hs
    ·
     rename_i hx
     have hn:=dev_name hx.1
     cases hs
     refine ⟨?_,ih.nds,?_,fun _ a => absurd (by simp) a,fun _ => ?_,fun _ b => ?_⟩
     ·
      have:=ih.cnt; rw [List.map_cons,hcn]; exact this
     ·
      rcases ih.nam with e | e
      ·
       rw [e]; exact .inr hn
      ·
       exact .inr e
     ·
      rcases ih.nam with e | e
      ·
       rw [e]; exact hn
      ·
       exact e
     ·
      by_cases h4:(118:UInt8) ∈ t.map (·.1)
      ·
       exact ih.v h4 (fun e => b (by simp [e]))
      ·
       rw [ih.same (fun e => b (by simp [e])) h4]; exact hx.2
    ·
     cases hs
   rw [if_neg h3] at hs
   cases hs
   refine ⟨?_,ih.nds,ih.nam,fun a b => ih.same (fun e => a (by simp [e])) (fun e => b (by simp [e])),fun a => ih.got ?_,fun a b => ih.v ?_ (fun e => b (by simp [e]))⟩
   ·
    have:=ih.cnt; rw [List.map_cons,hcn]; exact this
   ·
    rcases a with a | a
    ·
     rcases List.mem_cons.1 a with e | e
     ·
      exact absurd e.symm h2
     ·
      exact .inl e
    ·
     rcases List.mem_cons.1 a with e | e
     ·
      exact absurd e.symm h3
     ·
      exact .inr e
   ·
    rcases List.mem_cons.1 a with e | e
    ·
     exact absurd e.symm h3
    ·
     exact e
structure NuInv (p q:Pt) (cs:List UInt8):Prop where
 nodes:q.nodes = p.nodes
 name:q.name = p.name
 cnt:q.nums.length = p.nums.length + cs.count 120
 ok:∀ v ∈ q.nums,v ∈ p.nums ∨ okN v.1 v.2 = true
theorem nu_inv:∀ (zs:List (UInt8 × List UInt8)) (p q:Pt),nuAll p zs = .ok q->NuInv p q (zs.map (·.1))
 | [],p,q,h => by
  cases h
  exact ⟨rfl,rfl,by simp,fun x hx => .inl hx⟩
 | (c,x) :: t,p,q,h => by
  rw [nuAll] at h
  cases hs:nuStep p c x with
  | error e => simp only [hs] at h; cases h
  | ok r =>
   simp only [hs] at h
   have ih:=nu_inv t r q h
   unfold nuStep at hs
   by_cases h1:c = 120
   ·
    subst h1
    rw [if_pos rfl] at hs
    split at hs
    ·
     rename_i hx
     have hok:okN (parseOf x).1 (parseOf x).2.1 = true:=by
      rcases Q.parse_ok x with e | e | ⟨m,y,e,ho⟩
      ·
       rw [e] at hx; exact absurd hx (by decide)
      ·
       rw [e] at hx; exact absurd hx (by decide)
      ·
       rw [e]; exact ho
     cases hs
     refine ⟨ih.nodes,ih.name,?_,fun y hy => ?_⟩
     ·
      have:=ih.cnt; simp only [List.length_append,List.length_cons,List.length_nil,List.map_cons,List.count_cons_self] at this ⊢; omega
     ·
      rcases ih.ok y hy with e | e
      ·
       rcases List.mem_append.1 e with e | e
       ·
        exact .inl e
       ·
        rw [List.mem_singleton.1 e]; exact .inr hok
      ·
       exact .inr e
    ·
     cases hs
   rw [if_neg h1] at hs
   have hcn:∀ l:List UInt8,(c :: l).count 120 = l.count 120:=fun l => by rw [List.count_cons_of_ne h1]
   split at hs
   ·
    split at hs
    ·
     cases hs
     exact ⟨ih.nodes,ih.name,by have:=ih.cnt; rw [List.map_cons,hcn]; exact this,ih.ok⟩
    ·
     cases hs
   ·
    cases hs
    exact ⟨ih.nodes,ih.name,by have:=ih.cnt; rw [List.map_cons,hcn]; exact this,ih.ok⟩
theorem parts_inv {ws:List (List UInt8)} {sh:List UInt8} {p:Pt} (h:partsOf ws sh = .ok p) :
  p.nodes.length = sh.count 110/\(∀ x ∈ p.nodes,okName x = true)/\(109 ∉ sh->118 ∉ sh->p.name = [])/\((109 ∈ sh ∨ 118 ∈ sh)->okName p.name = true)/\(118 ∈ sh->109 ∉ sh->p.name.getD 0 0 = 118)/\p.nums.length = sh.count 120/\∀ v ∈ p.nums,okN v.1 v.2 = true:=by
 unfold partsOf at h
 split at h
 ·
  cases h
 rename_i hl
 have hm:(sh.zip ws).map (·.1) = sh:=by
  have:=List.map_fst_zip (l₁:=sh) (l₂:=ws) (by omega)
  exact this
 cases hn:nmAll Pt.zero (sh.zip ws) with
 | none => simp only [hn] at h; cases h
 | some r =>
  simp only [hn] at h
  have a:=nm_inv _ _ _ hn
  have b:=nu_inv _ _ _ h
  rw [hm] at a b
  have an:=nmAll_keep _ _ _ hn
  refine ⟨?_,?_,?_,?_,?_,?_,?_⟩
  ·
   rw [b.nodes,a.cnt]; simp [Pt.zero]
  ·
   intro x hx
   rw [b.nodes] at hx
   rcases a.nds x hx with e | e
   ·
    simp [Pt.zero] at e
   ·
    exact e
  ·
   intro h1 h2; rw [b.name,a.same h1 h2]; rfl
  ·
   intro h1; rw [b.name]; exact a.got h1
  ·
   intro h1 h2; rw [b.name]; exact a.v h1 h2
  ·
   rw [b.cnt,an.1]; simp [Pt.zero]
  ·
   intro v hv
   rcases b.ok v hv with e | e
   ·
    rw [an.1] at e; simp [Pt.zero] at e
   ·
    exact e
theorem rep_no {c:UInt8} {l:List UInt8} (h:c ∉ l):∀ k,c ∉ Lib.repeatL l k
 | 0 => by simp [Lib.repeatL]
 | k + 1 => by
  show c ∉ l ++ Lib.repeatL l k
  intro e
  rcases List.mem_append.1 e with e | e
  ·
   exact h e
  ·
   exact rep_no h k e
theorem wshape_no (ws:List (List UInt8)) (c:UInt8) (h:c = 110 ∨ c = 109 ∨ c = 118):c ∉ wshape ws:=by
 have h0:c ∉ ([115,120]:List UInt8):=by rcases h with rfl | rfl | rfl <;> decide
 have h1:c ∉ ([120]:List UInt8):=by rcases h with rfl | rfl | rfl <;> decide
 have h2:c ≠ 46:=by rcases h with rfl | rfl | rfl <;> decide
 cases ws with
 | nil => exact h1
 | cons x t =>
  rw [wshape]
  split
  ·
   rcases h with rfl | rfl | rfl <;> decide
  split
  ·
   rcases h with rfl | rfl | rfl <;> decide
  split
  ·
   intro e
   rcases List.mem_cons.1 e with e | e
   ·
    exact h2 e
   ·
    exact rep_no h0 _ e
  split
  ·
   intro e
   rcases List.mem_cons.1 e with e | e
   ·
    exact h2 e
   ·
    exact rep_no h1 _ e
  ·
   exact h1
end V
end Go.Proofs.YtihnknnddldgiaaGreatDoor
