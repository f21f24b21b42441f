/- shuntref07.Write of right cards without a wave. -/
import Derived.Test.YtembglnonhlnkaaGreatDoorGbg
import Derived.Test.YtembglnonhlnkaaGreatDoorGbg
import Derived.Test.YtembglnonhlnkaaGreatDoorGbh
namespace Go.Proofs.YtembglnonhlnkaaGreatDoor
open Go.RowKit
namespace V
open Q (hid' parseOf Lett ErrV Tab okN textOf)
open X (bs OwnS RS strs bs_list bs_size)
theorem cell_pair (w:World) (x y:Value) (t:TypeId):∀ j u,([x,y]:List Value)[j]? = some u→(w.alloc (.cells #[x,y] t)).cell? ((⟨w.heap.size,0,none⟩:Addr).add j) = some u:=by
 intro j u hj
 match j,hj with
 | 0,hj => simp at hj; subst hj; simp [Addr.add]
 | 1,hj => simp at hj; subst hj; simp [Addr.add]
set_option maxRecDepth 100000 in
set_option maxHeartbeats 8000000 in
theorem rwr_l114 (a1 a2 a3:Option Addr) (n1 k1 n2 k2 n3 k3:Nat) (c:Cd) (w:World) (hc:CdR w a1 n1 k1 a2 n2 k2 a3 n3 k3 c) (hR:RightC c) (hq:c.name.getD 0 0 = 114) :
  Calls Tryz.prog 23 #[cdV c (.slice a1 n1 k1) (.slice a2 n2 k2) (.slice a3 n3 k3)] w fun e w' => Kept w w'∧∃ u,e = .returned (.tuple #[u,.int .i64 0])∧OwnS w.heap.size w' u (cwords c):=by
 have hln:=right_lens hR
 have HLN:=hid' (show n1 = c.nodes.length∧n2 = c.vals.length∧n3 = c.steps.length from ⟨rs_len hc.nodes,hc.vals.len,hc.steps.len⟩)
 have hri:=fun V (K:Kept w V) => right_any a1 a2 a3 n1 k1 n2 k2 n3 k3 c V (hc.kept K) hln.2.2.2.1 hln.2.2.2.2.1 hln.2.2.2.2.2 ⟨by have:=HLN.out; have:=hln.1; omega,by have:=HLN.out; have:=hln.2.1; omega,by have:=HLN.out; have:=hln.2.2.1; omega⟩
 rw [(right_iff c).2 hR] at hri
 have hcw:cwords c = ([c.name] ++ c.nodes) ++ [tx c.val]:=by
  unfold cwords
  rw [hq,if_neg (by decide),if_pos (by decide),if_neg (by decide)]
  simp
 obtain ⟨R,hRR⟩:∃ l,l = cwords c:=⟨_,rfl⟩
 rw [← hRR]
 have HRR:=hid' (hRR.trans hcw)
 clear hRR
 have hn1:0 < n1∧n1≤8:=by
  have h1:=hR.cnt
  have h2:=HLN.out.1
  have h3:=hln.1
  rw [hq] at h1
  unfold nodesN at h1
  have:=of_decide_eq_true h1
  omega
 have HWV:=hid' (hR.wav)
 rw [hq] at HWV
 have hh:=dev_len hR.dev
 have HC:=hid' hc
 clear hR hc hcw hln
 obtain ⟨cn,cnd,cr,⟨cm,cx⟩,ckd,cvs,css⟩:=c
 unfold cdV at hri ⊢
 simp only at hri hh hq HWV HLN HRR ⊢
 obtain ⟨s1,hs1⟩:∃ s,s = bs cn:=⟨_,rfl⟩
 obtain ⟨s3,hs3⟩:∃ s,s = bs cr:=⟨_,rfl⟩
 rw [← hs1,← hs3] at hri ⊢
 have hsz:0 < s1.size:=by rw [hs1,bs_size]; exact hh
 have hszi:(0:Int) < (s1.size:Int):=by omega
 have eh:s1[0].toNat = 114:=by rw [head_of hsz hs1,hq]; rfl
 have HE:=hid' (show s1.data.toList = cn∧s3.data.toList = cr by rw [hs1,hs3]; exact ⟨bs_list _,bs_list _⟩)
 obtain ⟨i0,hi,hz0,hz1,hz2⟩:=info_parts X.info_str
 clear hs1 hs3 hh hq
 go_enter Tryz.func23,Tryz.ntmps23
 go_wp2_with fail
 have hK:=(Kept.refl w).alloc (.cells #[.string s1,.slice a1 n1 k1,.string s3,.int .i64 cm,.int .i64 cx,.int .i64 ckd,.slice a2 n2 k2,.slice a3 n3 k3] 32)
 have hA:=RowL.alloc 32 w [.string s1,.slice a1 n1 k1,.string s3,.int .i64 cm,.int .i64 cx,.int .i64 ckd,.slice a2 n2 k2,.slice a3 n3 k3]
 generalize w.alloc (.cells #[.string s1,.slice a1 n1 k1,.string s3,.int .i64 cm,.int .i64 cx,.int .i64 ckd,.slice a2 n2 k2,.slice a3 n3 k3] 32) = W0 at hK hA ⊢
 obtain ⟨p,hp⟩:∃ q,q = w.heap.size:=⟨_,rfl⟩
 rw [← hp] at hA ⊢
 have HP:=hid' hp
 clear hp
 refine (hri _ hK).mono ?_
 rintro e w1 ⟨hk1,rfl⟩
 have HW:=hid' (And.intro (hK.trans hk1) (hA.kept hk1))
 have kL:=(Kept.refl w1).alloc (.cells #[.string s1] 9)
 have f0:=HW.out.2.cell 0 (.string s1)
 have f1:=HW.out.2.cell 1 (.slice a1 n1 k1)
 have f2:=HW.out.2.cell 2 (.string s3)
 have f3:=HW.out.2.cell 3 (.int .i64 cm)
 have f4:=HW.out.2.cell 4 (.int .i64 cx)
 have f5:=HW.out.2.cell 5 (.int .i64 ckd)
 have f6:=HW.out.2.cell 6 (.slice a2 n2 k2)
 have f7:=HW.out.2.cell 7 (.slice a3 n3 k3)
 have g0:=(HW.out.2.kept kL).cell 0 (.string s1)
 have g1:=(HW.out.2.kept kL).cell 1 (.slice a1 n1 k1)
 have g2:=(HW.out.2.kept kL).cell 2 (.string s3)
 have g3:=(HW.out.2.kept kL).cell 3 (.int .i64 cm)
 have g4:=(HW.out.2.kept kL).cell 4 (.int .i64 cx)
 have g5:=(HW.out.2.kept kL).cell 5 (.int .i64 ckd)
 have g6:=(HW.out.2.kept kL).cell 6 (.slice a2 n2 k2)
 have g7:=(HW.out.2.kept kL).cell 7 (.slice a3 n3 k3)
 have HB:=hid' (show w.heap.size + 1≤w1.heap.size by have:=HW.out.2.lt; have:=HP.out; omega)
 have hLo:=lit_own w1 (w.heap.size + 1) s1 HB.out
 obtain ⟨b,off,rfl,hsrc⟩:∃ b off,a1 = some ⟨b,off,none⟩∧∀ j u,(strs cnd)[j]? = some u→(w1.alloc (.cells #[.string s1] 9)).cell? ((⟨b,off,none⟩:Addr).add j) = some u:=by
  obtain ⟨ad,e,h⟩:=strs_src (HC.out.nodes.kept (HW.out.1.trans kL)) hn1.1
  obtain ⟨b,off,spot⟩:=ad
  have hsp:spot = none:=by
   have h0:=h 0 _ (X.strs_at cnd 0 (by have h9:=hn1.1; rw [HLN.out.1] at h9; exact h9))
   simp [Addr.add] at h0
   exact World.cell?_spot h0
  subst hsp
  exact ⟨b,off,e,h⟩
 clear hK hA hk1 hri
 go_wp2_with (at_builtin; refine wpList_append_lies _ rfl (.tmp 14) (.tmp 16) 22 rfl (w.heap.size + 1) 9 i0 (.string ByteArray.empty) 1 16 X.und_strs hi hz0 hz1 hz2 rfl (by decide) (.slice (some ⟨w1.heap.size,0,none⟩) 1 1) 1 (strs [s1.data.toList]) rfl (by exact hLo) ⟨b,off,none⟩ n1 k1 (strs cnd) rfl (by rw [X.strs_len,HLN.out.1]) hsrc (X.strs_one cnd) (by omega) (by unfold maxLen; omega) (by omega) (by have:=HB.out; simp; omega) _ rfl ?_)
 intro q4 cap4 W4 own4 hg4 hgg _
 have HI0:Hid (CwI w w1 p 32 [.string s1,.slice (some ⟨b,off,none⟩) n1 k1,.string s3,.int .i64 cm,.int .i64 cx,.int .i64 ckd,.slice a2 n2 k2,.slice a3 n3 k3] (.slice (some ⟨w1.heap.size,0,none⟩) 1 1) [])→True:=fun _ => trivial
 have HI:Hid (CwI w W4 p 32 [.string s1,.slice (some ⟨b,off,none⟩) n1 k1,.string s3,.int .i64 cm,.int .i64 cx,.int .i64 ckd,.slice a2 n2 k2,.slice a3 n3 k3] (.slice (some ⟨q4,0,none⟩) (1 + n1) cap4) ([cn] ++ cnd)):=by
  have hl2:CwI w (w1.alloc (.cells #[.string s1] 9)) p 32 [.string s1,.slice (some ⟨b,off,none⟩) n1 k1,.string s3,.int .i64 cm,.int .i64 cx,.int .i64 ckd,.slice a2 n2 k2,.slice a3 n3 k3] (.slice (some ⟨w1.heap.size,0,none⟩) 1 1) [cn]:=⟨HW.out.1.trans kL,by rw [HP.out]; exact Nat.le_refl _,HW.out.2.kept kL,by rw [← HE.out.1]; exact hLo⟩
  refine hl2.add (news:=cnd) (Kept.refl _) ?_ (by rw [List.length_singleton,HLN.out.1]) hg4
  rw [HE.out.1] at own4
  exact own4
 have HLW:=hid' (show ([cn] ++ cnd).length≤40 by rw [List.length_append,List.length_singleton,← HLN.out.1]; omega)
 have hl5:([cn] ++ cnd).length = 1 + n1:=by rw [List.length_append,List.length_singleton,HLN.out.1]
 obtain ⟨wk,hwk⟩:∃ l,l = [cn] ++ cnd:=⟨_,rfl⟩
 rw [← hwk] at HI HLW hl5 HRR
 clear hwk
 rw [← hl5] at HI ⊢
 clear own4 hg4 hgg hLo kL hsrc HI0 f0 f1 f2 f3 f4 f5 f6 f7 g0 g1 g2 g3 g4 g5 g6 g7 hl5
 have kV:=(Kept.refl W4).alloc (.cells #[.int .i64 ckd,.slice a2 n2 k2,.slice a3 n3 k3] 30)
 have hV:=RowL.alloc 30 W4 [.int .i64 ckd,.slice a2 n2 k2,.slice a3 n3 k3]
 have f0:=HI.out.row.cell 0 (.string s1)
 have f1:=HI.out.row.cell 1 (.slice (some ⟨b,off,none⟩) n1 k1)
 have f2:=HI.out.row.cell 2 (.string s3)
 have f3:=HI.out.row.cell 3 (.int .i64 cm)
 have f4:=HI.out.row.cell 4 (.int .i64 cx)
 have f5:=HI.out.row.cell 5 (.int .i64 ckd)
 have f6:=HI.out.row.cell 6 (.slice a2 n2 k2)
 have f7:=HI.out.row.cell 7 (.slice a3 n3 k3)
 have g0:=(HI.out.row.kept kV).cell 0 (.string s1)
 have g1:=(HI.out.row.kept kV).cell 1 (.slice (some ⟨b,off,none⟩) n1 k1)
 have g2:=(HI.out.row.kept kV).cell 2 (.string s3)
 have g3:=(HI.out.row.kept kV).cell 3 (.int .i64 cm)
 have g4:=(HI.out.row.kept kV).cell 4 (.int .i64 cx)
 have g5:=(HI.out.row.kept kV).cell 5 (.int .i64 ckd)
 have g6:=(HI.out.row.kept kV).cell 6 (.slice a2 n2 k2)
 have g7:=(HI.out.row.kept kV).cell 7 (.slice a3 n3 k3)
 have HI:=hid' (HI.out.kept kV)
 have HV:=hid' hV
 clear kV hV
 go_wp2_with fail
 generalize W4.alloc (.cells #[.int .i64 ckd,.slice a2 n2 k2,.slice a3 n3 k3] 30) = W5 at HI HV g0 g1 g2 g3 g4 g5 g6 g7 ⊢
 refine (rtx7_any cm cx _).mono ?_
 rintro e w6 ⟨hk6,rfl⟩
 obtain ⟨tv,htv⟩:∃ t,t = bs (tx (cm,cx)):=⟨_,rfl⟩
 rw [← htv]
 have Htv:=hid' htv
 have HI:=hid' (HI.out.kept hk6)
 clear htv hk6 f0 f1 f2 f3 f4 f5 f6 f7 g0 g1 g2 g3 g4 g5 g6 g7 HV
 have KA:=(Kept.refl w6).alloc (.cells #[.string tv] 9)
 go_wp2_with (at_builtin; refine wpList_append_lies _ rfl (.tmp 30) (.tmp 34) 22 rfl (w.heap.size + 1) 9 i0 (.string ByteArray.empty) 1 16 X.und_strs hi hz0 hz1 hz2 rfl (by decide) _ wk.length (strs wk) rfl (by exact (HI.out.kept KA).own) ⟨w6.heap.size,0,none⟩ 1 1 [.string tv] rfl rfl (X.cell_new w6 _ _) (fun u hu => by simp at hu; subst hu; rfl) (by omega) (by have:=HLW.out; unfold maxLen; omega) (by have:=HLW.out; omega) (by have:=HB.out; have:=HI.out.kp.size; have:=HI.out.row.lt; have:=HI.out.le; simp; omega) _ rfl ?_)
 intro q5 cap5 W6 own5 hg5 hgg5 _
 have HI:=hid' (HI.out.add (news:=[tv.data.toList]) KA own5 rfl hg5)
 clear own5 hg5 hgg5 KA
 go_wp2_with fail
 go_ret2
 refine ⟨HI.out.kp,_,rfl,?_⟩
 rw [HRR.out]
 have:=own_mono HI.out.own (Nat.le_succ w.heap.size)
 rw [Htv.out,bs_list] at this
 exact this
set_option maxRecDepth 100000 in
set_option maxHeartbeats 8000000 in
theorem rwr_l99 (a1 a2 a3:Option Addr) (n1 k1 n2 k2 n3 k3:Nat) (c:Cd) (w:World) (hc:CdR w a1 n1 k1 a2 n2 k2 a3 n3 k3 c) (hR:RightC c) (hq:c.name.getD 0 0 = 99) :
  Calls Tryz.prog 23 #[cdV c (.slice a1 n1 k1) (.slice a2 n2 k2) (.slice a3 n3 k3)] w fun e w' => Kept w w'∧∃ u,e = .returned (.tuple #[u,.int .i64 0])∧OwnS w.heap.size w' u (cwords c):=by
 have hln:=right_lens hR
 have HLN:=hid' (show n1 = c.nodes.length∧n2 = c.vals.length∧n3 = c.steps.length from ⟨rs_len hc.nodes,hc.vals.len,hc.steps.len⟩)
 have hri:=fun V (K:Kept w V) => right_any a1 a2 a3 n1 k1 n2 k2 n3 k3 c V (hc.kept K) hln.2.2.2.1 hln.2.2.2.2.1 hln.2.2.2.2.2 ⟨by have:=HLN.out; have:=hln.1; omega,by have:=HLN.out; have:=hln.2.1; omega,by have:=HLN.out; have:=hln.2.2.1; omega⟩
 rw [(right_iff c).2 hR] at hri
 have hcw:cwords c = ([c.name] ++ c.nodes) ++ [tx c.val]:=by
  unfold cwords
  rw [hq,if_neg (by decide),if_pos (by decide),if_neg (by decide)]
  simp
 obtain ⟨R,hRR⟩:∃ l,l = cwords c:=⟨_,rfl⟩
 rw [← hRR]
 have HRR:=hid' (hRR.trans hcw)
 clear hRR
 have hn1:0 < n1∧n1≤8:=by
  have h1:=hR.cnt
  have h2:=HLN.out.1
  have h3:=hln.1
  rw [hq] at h1
  unfold nodesN at h1
  have:=of_decide_eq_true h1
  omega
 have HWV:=hid' (hR.wav)
 rw [hq] at HWV
 have hh:=dev_len hR.dev
 have HC:=hid' hc
 clear hR hc hcw hln
 obtain ⟨cn,cnd,cr,⟨cm,cx⟩,ckd,cvs,css⟩:=c
 unfold cdV at hri ⊢
 simp only at hri hh hq HWV HLN HRR ⊢
 obtain ⟨s1,hs1⟩:∃ s,s = bs cn:=⟨_,rfl⟩
 obtain ⟨s3,hs3⟩:∃ s,s = bs cr:=⟨_,rfl⟩
 rw [← hs1,← hs3] at hri ⊢
 have hsz:0 < s1.size:=by rw [hs1,bs_size]; exact hh
 have hszi:(0:Int) < (s1.size:Int):=by omega
 have eh:s1[0].toNat = 99:=by rw [head_of hsz hs1,hq]; rfl
 have HE:=hid' (show s1.data.toList = cn∧s3.data.toList = cr by rw [hs1,hs3]; exact ⟨bs_list _,bs_list _⟩)
 obtain ⟨i0,hi,hz0,hz1,hz2⟩:=info_parts X.info_str
 clear hs1 hs3 hh hq
 go_enter Tryz.func23,Tryz.ntmps23
 go_wp2_with fail
 have hK:=(Kept.refl w).alloc (.cells #[.string s1,.slice a1 n1 k1,.string s3,.int .i64 cm,.int .i64 cx,.int .i64 ckd,.slice a2 n2 k2,.slice a3 n3 k3] 32)
 have hA:=RowL.alloc 32 w [.string s1,.slice a1 n1 k1,.string s3,.int .i64 cm,.int .i64 cx,.int .i64 ckd,.slice a2 n2 k2,.slice a3 n3 k3]
 generalize w.alloc (.cells #[.string s1,.slice a1 n1 k1,.string s3,.int .i64 cm,.int .i64 cx,.int .i64 ckd,.slice a2 n2 k2,.slice a3 n3 k3] 32) = W0 at hK hA ⊢
 obtain ⟨p,hp⟩:∃ q,q = w.heap.size:=⟨_,rfl⟩
 rw [← hp] at hA ⊢
 have HP:=hid' hp
 clear hp
 refine (hri _ hK).mono ?_
 rintro e w1 ⟨hk1,rfl⟩
 have HW:=hid' (And.intro (hK.trans hk1) (hA.kept hk1))
 have kL:=(Kept.refl w1).alloc (.cells #[.string s1] 9)
 have f0:=HW.out.2.cell 0 (.string s1)
 have f1:=HW.out.2.cell 1 (.slice a1 n1 k1)
 have f2:=HW.out.2.cell 2 (.string s3)
 have f3:=HW.out.2.cell 3 (.int .i64 cm)
 have f4:=HW.out.2.cell 4 (.int .i64 cx)
 have f5:=HW.out.2.cell 5 (.int .i64 ckd)
 have f6:=HW.out.2.cell 6 (.slice a2 n2 k2)
 have f7:=HW.out.2.cell 7 (.slice a3 n3 k3)
 have g0:=(HW.out.2.kept kL).cell 0 (.string s1)
 have g1:=(HW.out.2.kept kL).cell 1 (.slice a1 n1 k1)
 have g2:=(HW.out.2.kept kL).cell 2 (.string s3)
 have g3:=(HW.out.2.kept kL).cell 3 (.int .i64 cm)
 have g4:=(HW.out.2.kept kL).cell 4 (.int .i64 cx)
 have g5:=(HW.out.2.kept kL).cell 5 (.int .i64 ckd)
 have g6:=(HW.out.2.kept kL).cell 6 (.slice a2 n2 k2)
 have g7:=(HW.out.2.kept kL).cell 7 (.slice a3 n3 k3)
 have HB:=hid' (show w.heap.size + 1≤w1.heap.size by have:=HW.out.2.lt; have:=HP.out; omega)
 have hLo:=lit_own w1 (w.heap.size + 1) s1 HB.out
 obtain ⟨b,off,rfl,hsrc⟩:∃ b off,a1 = some ⟨b,off,none⟩∧∀ j u,(strs cnd)[j]? = some u→(w1.alloc (.cells #[.string s1] 9)).cell? ((⟨b,off,none⟩:Addr).add j) = some u:=by
  obtain ⟨ad,e,h⟩:=strs_src (HC.out.nodes.kept (HW.out.1.trans kL)) hn1.1
  obtain ⟨b,off,spot⟩:=ad
  have hsp:spot = none:=by
   have h0:=h 0 _ (X.strs_at cnd 0 (by have h9:=hn1.1; rw [HLN.out.1] at h9; exact h9))
   simp [Addr.add] at h0
   exact World.cell?_spot h0
  subst hsp
  exact ⟨b,off,e,h⟩
 clear hK hA hk1 hri
 go_wp2_with (at_builtin; refine wpList_append_lies _ rfl (.tmp 14) (.tmp 16) 22 rfl (w.heap.size + 1) 9 i0 (.string ByteArray.empty) 1 16 X.und_strs hi hz0 hz1 hz2 rfl (by decide) (.slice (some ⟨w1.heap.size,0,none⟩) 1 1) 1 (strs [s1.data.toList]) rfl (by exact hLo) ⟨b,off,none⟩ n1 k1 (strs cnd) rfl (by rw [X.strs_len,HLN.out.1]) hsrc (X.strs_one cnd) (by omega) (by unfold maxLen; omega) (by omega) (by have:=HB.out; simp; omega) _ rfl ?_)
 intro q4 cap4 W4 own4 hg4 hgg _
 have HI0:Hid (CwI w w1 p 32 [.string s1,.slice (some ⟨b,off,none⟩) n1 k1,.string s3,.int .i64 cm,.int .i64 cx,.int .i64 ckd,.slice a2 n2 k2,.slice a3 n3 k3] (.slice (some ⟨w1.heap.size,0,none⟩) 1 1) [])→True:=fun _ => trivial
 have HI:Hid (CwI w W4 p 32 [.string s1,.slice (some ⟨b,off,none⟩) n1 k1,.string s3,.int .i64 cm,.int .i64 cx,.int .i64 ckd,.slice a2 n2 k2,.slice a3 n3 k3] (.slice (some ⟨q4,0,none⟩) (1 + n1) cap4) ([cn] ++ cnd)):=by
  have hl2:CwI w (w1.alloc (.cells #[.string s1] 9)) p 32 [.string s1,.slice (some ⟨b,off,none⟩) n1 k1,.string s3,.int .i64 cm,.int .i64 cx,.int .i64 ckd,.slice a2 n2 k2,.slice a3 n3 k3] (.slice (some ⟨w1.heap.size,0,none⟩) 1 1) [cn]:=⟨HW.out.1.trans kL,by rw [HP.out]; exact Nat.le_refl _,HW.out.2.kept kL,by rw [← HE.out.1]; exact hLo⟩
  refine hl2.add (news:=cnd) (Kept.refl _) ?_ (by rw [List.length_singleton,HLN.out.1]) hg4
  rw [HE.out.1] at own4
  exact own4
 have HLW:=hid' (show ([cn] ++ cnd).length≤40 by rw [List.length_append,List.length_singleton,← HLN.out.1]; omega)
 have hl5:([cn] ++ cnd).length = 1 + n1:=by rw [List.length_append,List.length_singleton,HLN.out.1]
 obtain ⟨wk,hwk⟩:∃ l,l = [cn] ++ cnd:=⟨_,rfl⟩
 rw [← hwk] at HI HLW hl5 HRR
 clear hwk
 rw [← hl5] at HI ⊢
 clear own4 hg4 hgg hLo kL hsrc HI0 f0 f1 f2 f3 f4 f5 f6 f7 g0 g1 g2 g3 g4 g5 g6 g7 hl5
 have kV:=(Kept.refl W4).alloc (.cells #[.int .i64 ckd,.slice a2 n2 k2,.slice a3 n3 k3] 30)
 have hV:=RowL.alloc 30 W4 [.int .i64 ckd,.slice a2 n2 k2,.slice a3 n3 k3]
 have f0:=HI.out.row.cell 0 (.string s1)
 have f1:=HI.out.row.cell 1 (.slice (some ⟨b,off,none⟩) n1 k1)
 have f2:=HI.out.row.cell 2 (.string s3)
 have f3:=HI.out.row.cell 3 (.int .i64 cm)
 have f4:=HI.out.row.cell 4 (.int .i64 cx)
 have f5:=HI.out.row.cell 5 (.int .i64 ckd)
 have f6:=HI.out.row.cell 6 (.slice a2 n2 k2)
 have f7:=HI.out.row.cell 7 (.slice a3 n3 k3)
 have g0:=(HI.out.row.kept kV).cell 0 (.string s1)
 have g1:=(HI.out.row.kept kV).cell 1 (.slice (some ⟨b,off,none⟩) n1 k1)
 have g2:=(HI.out.row.kept kV).cell 2 (.string s3)
 have g3:=(HI.out.row.kept kV).cell 3 (.int .i64 cm)
 have g4:=(HI.out.row.kept kV).cell 4 (.int .i64 cx)
 have g5:=(HI.out.row.kept kV).cell 5 (.int .i64 ckd)
 have g6:=(HI.out.row.kept kV).cell 6 (.slice a2 n2 k2)
 have g7:=(HI.out.row.kept kV).cell 7 (.slice a3 n3 k3)
 have HI:=hid' (HI.out.kept kV)
 have HV:=hid' hV
 clear kV hV
 go_wp2_with fail
 generalize W4.alloc (.cells #[.int .i64 ckd,.slice a2 n2 k2,.slice a3 n3 k3] 30) = W5 at HI HV g0 g1 g2 g3 g4 g5 g6 g7 ⊢
 refine (rtx7_any cm cx _).mono ?_
 rintro e w6 ⟨hk6,rfl⟩
 obtain ⟨tv,htv⟩:∃ t,t = bs (tx (cm,cx)):=⟨_,rfl⟩
 rw [← htv]
 have Htv:=hid' htv
 have HI:=hid' (HI.out.kept hk6)
 clear htv hk6 f0 f1 f2 f3 f4 f5 f6 f7 g0 g1 g2 g3 g4 g5 g6 g7 HV
 have KA:=(Kept.refl w6).alloc (.cells #[.string tv] 9)
 go_wp2_with (at_builtin; refine wpList_append_lies _ rfl (.tmp 30) (.tmp 34) 22 rfl (w.heap.size + 1) 9 i0 (.string ByteArray.empty) 1 16 X.und_strs hi hz0 hz1 hz2 rfl (by decide) _ wk.length (strs wk) rfl (by exact (HI.out.kept KA).own) ⟨w6.heap.size,0,none⟩ 1 1 [.string tv] rfl rfl (X.cell_new w6 _ _) (fun u hu => by simp at hu; subst hu; rfl) (by omega) (by have:=HLW.out; unfold maxLen; omega) (by have:=HLW.out; omega) (by have:=HB.out; have:=HI.out.kp.size; have:=HI.out.row.lt; have:=HI.out.le; simp; omega) _ rfl ?_)
 intro q5 cap5 W6 own5 hg5 hgg5 _
 have HI:=hid' (HI.out.add (news:=[tv.data.toList]) KA own5 rfl hg5)
 clear own5 hg5 hgg5 KA
 go_wp2_with fail
 go_ret2
 refine ⟨HI.out.kp,_,rfl,?_⟩
 rw [HRR.out]
 have:=own_mono HI.out.own (Nat.le_succ w.heap.size)
 rw [Htv.out,bs_list] at this
 exact this
set_option maxRecDepth 100000 in
set_option maxHeartbeats 8000000 in
theorem rwr_l108 (a1 a2 a3:Option Addr) (n1 k1 n2 k2 n3 k3:Nat) (c:Cd) (w:World) (hc:CdR w a1 n1 k1 a2 n2 k2 a3 n3 k3 c) (hR:RightC c) (hq:c.name.getD 0 0 = 108) :
  Calls Tryz.prog 23 #[cdV c (.slice a1 n1 k1) (.slice a2 n2 k2) (.slice a3 n3 k3)] w fun e w' => Kept w w'∧∃ u,e = .returned (.tuple #[u,.int .i64 0])∧OwnS w.heap.size w' u (cwords c):=by
 have hln:=right_lens hR
 have HLN:=hid' (show n1 = c.nodes.length∧n2 = c.vals.length∧n3 = c.steps.length from ⟨rs_len hc.nodes,hc.vals.len,hc.steps.len⟩)
 have hri:=fun V (K:Kept w V) => right_any a1 a2 a3 n1 k1 n2 k2 n3 k3 c V (hc.kept K) hln.2.2.2.1 hln.2.2.2.2.1 hln.2.2.2.2.2 ⟨by have:=HLN.out; have:=hln.1; omega,by have:=HLN.out; have:=hln.2.1; omega,by have:=HLN.out; have:=hln.2.2.1; omega⟩
 rw [(right_iff c).2 hR] at hri
 have hcw:cwords c = ([c.name] ++ c.nodes) ++ [tx c.val]:=by
  unfold cwords
  rw [hq,if_neg (by decide),if_pos (by decide),if_neg (by decide)]
  simp
 obtain ⟨R,hRR⟩:∃ l,l = cwords c:=⟨_,rfl⟩
 rw [← hRR]
 have HRR:=hid' (hRR.trans hcw)
 clear hRR
 have hn1:0 < n1∧n1≤8:=by
  have h1:=hR.cnt
  have h2:=HLN.out.1
  have h3:=hln.1
  rw [hq] at h1
  unfold nodesN at h1
  have:=of_decide_eq_true h1
  omega
 have HWV:=hid' (hR.wav)
 rw [hq] at HWV
 have hh:=dev_len hR.dev
 have HC:=hid' hc
 clear hR hc hcw hln
 obtain ⟨cn,cnd,cr,⟨cm,cx⟩,ckd,cvs,css⟩:=c
 unfold cdV at hri ⊢
 simp only at hri hh hq HWV HLN HRR ⊢
 obtain ⟨s1,hs1⟩:∃ s,s = bs cn:=⟨_,rfl⟩
 obtain ⟨s3,hs3⟩:∃ s,s = bs cr:=⟨_,rfl⟩
 rw [← hs1,← hs3] at hri ⊢
 have hsz:0 < s1.size:=by rw [hs1,bs_size]; exact hh
 have hszi:(0:Int) < (s1.size:Int):=by omega
 have eh:s1[0].toNat = 108:=by rw [head_of hsz hs1,hq]; rfl
 have HE:=hid' (show s1.data.toList = cn∧s3.data.toList = cr by rw [hs1,hs3]; exact ⟨bs_list _,bs_list _⟩)
 obtain ⟨i0,hi,hz0,hz1,hz2⟩:=info_parts X.info_str
 clear hs1 hs3 hh hq
 go_enter Tryz.func23,Tryz.ntmps23
 go_wp2_with fail
 have hK:=(Kept.refl w).alloc (.cells #[.string s1,.slice a1 n1 k1,.string s3,.int .i64 cm,.int .i64 cx,.int .i64 ckd,.slice a2 n2 k2,.slice a3 n3 k3] 32)
 have hA:=RowL.alloc 32 w [.string s1,.slice a1 n1 k1,.string s3,.int .i64 cm,.int .i64 cx,.int .i64 ckd,.slice a2 n2 k2,.slice a3 n3 k3]
 generalize w.alloc (.cells #[.string s1,.slice a1 n1 k1,.string s3,.int .i64 cm,.int .i64 cx,.int .i64 ckd,.slice a2 n2 k2,.slice a3 n3 k3] 32) = W0 at hK hA ⊢
 obtain ⟨p,hp⟩:∃ q,q = w.heap.size:=⟨_,rfl⟩
 rw [← hp] at hA ⊢
 have HP:=hid' hp
 clear hp
 refine (hri _ hK).mono ?_
 rintro e w1 ⟨hk1,rfl⟩
 have HW:=hid' (And.intro (hK.trans hk1) (hA.kept hk1))
 have kL:=(Kept.refl w1).alloc (.cells #[.string s1] 9)
 have f0:=HW.out.2.cell 0 (.string s1)
 have f1:=HW.out.2.cell 1 (.slice a1 n1 k1)
 have f2:=HW.out.2.cell 2 (.string s3)
 have f3:=HW.out.2.cell 3 (.int .i64 cm)
 have f4:=HW.out.2.cell 4 (.int .i64 cx)
 have f5:=HW.out.2.cell 5 (.int .i64 ckd)
 have f6:=HW.out.2.cell 6 (.slice a2 n2 k2)
 have f7:=HW.out.2.cell 7 (.slice a3 n3 k3)
 have g0:=(HW.out.2.kept kL).cell 0 (.string s1)
 have g1:=(HW.out.2.kept kL).cell 1 (.slice a1 n1 k1)
 have g2:=(HW.out.2.kept kL).cell 2 (.string s3)
 have g3:=(HW.out.2.kept kL).cell 3 (.int .i64 cm)
 have g4:=(HW.out.2.kept kL).cell 4 (.int .i64 cx)
 have g5:=(HW.out.2.kept kL).cell 5 (.int .i64 ckd)
 have g6:=(HW.out.2.kept kL).cell 6 (.slice a2 n2 k2)
 have g7:=(HW.out.2.kept kL).cell 7 (.slice a3 n3 k3)
 have HB:=hid' (show w.heap.size + 1≤w1.heap.size by have:=HW.out.2.lt; have:=HP.out; omega)
 have hLo:=lit_own w1 (w.heap.size + 1) s1 HB.out
 obtain ⟨b,off,rfl,hsrc⟩:∃ b off,a1 = some ⟨b,off,none⟩∧∀ j u,(strs cnd)[j]? = some u→(w1.alloc (.cells #[.string s1] 9)).cell? ((⟨b,off,none⟩:Addr).add j) = some u:=by
  obtain ⟨ad,e,h⟩:=strs_src (HC.out.nodes.kept (HW.out.1.trans kL)) hn1.1
  obtain ⟨b,off,spot⟩:=ad
  have hsp:spot = none:=by
   have h0:=h 0 _ (X.strs_at cnd 0 (by have h9:=hn1.1; rw [HLN.out.1] at h9; exact h9))
   simp [Addr.add] at h0
   exact World.cell?_spot h0
  subst hsp
  exact ⟨b,off,e,h⟩
 clear hK hA hk1 hri
 go_wp2_with (at_builtin; refine wpList_append_lies _ rfl (.tmp 14) (.tmp 16) 22 rfl (w.heap.size + 1) 9 i0 (.string ByteArray.empty) 1 16 X.und_strs hi hz0 hz1 hz2 rfl (by decide) (.slice (some ⟨w1.heap.size,0,none⟩) 1 1) 1 (strs [s1.data.toList]) rfl (by exact hLo) ⟨b,off,none⟩ n1 k1 (strs cnd) rfl (by rw [X.strs_len,HLN.out.1]) hsrc (X.strs_one cnd) (by omega) (by unfold maxLen; omega) (by omega) (by have:=HB.out; simp; omega) _ rfl ?_)
 intro q4 cap4 W4 own4 hg4 hgg _
 have HI0:Hid (CwI w w1 p 32 [.string s1,.slice (some ⟨b,off,none⟩) n1 k1,.string s3,.int .i64 cm,.int .i64 cx,.int .i64 ckd,.slice a2 n2 k2,.slice a3 n3 k3] (.slice (some ⟨w1.heap.size,0,none⟩) 1 1) [])→True:=fun _ => trivial
 have HI:Hid (CwI w W4 p 32 [.string s1,.slice (some ⟨b,off,none⟩) n1 k1,.string s3,.int .i64 cm,.int .i64 cx,.int .i64 ckd,.slice a2 n2 k2,.slice a3 n3 k3] (.slice (some ⟨q4,0,none⟩) (1 + n1) cap4) ([cn] ++ cnd)):=by
  have hl2:CwI w (w1.alloc (.cells #[.string s1] 9)) p 32 [.string s1,.slice (some ⟨b,off,none⟩) n1 k1,.string s3,.int .i64 cm,.int .i64 cx,.int .i64 ckd,.slice a2 n2 k2,.slice a3 n3 k3] (.slice (some ⟨w1.heap.size,0,none⟩) 1 1) [cn]:=⟨HW.out.1.trans kL,by rw [HP.out]; exact Nat.le_refl _,HW.out.2.kept kL,by rw [← HE.out.1]; exact hLo⟩
  refine hl2.add (news:=cnd) (Kept.refl _) ?_ (by rw [List.length_singleton,HLN.out.1]) hg4
  rw [HE.out.1] at own4
  exact own4
 have HLW:=hid' (show ([cn] ++ cnd).length≤40 by rw [List.length_append,List.length_singleton,← HLN.out.1]; omega)
 have hl5:([cn] ++ cnd).length = 1 + n1:=by rw [List.length_append,List.length_singleton,HLN.out.1]
 obtain ⟨wk,hwk⟩:∃ l,l = [cn] ++ cnd:=⟨_,rfl⟩
 rw [← hwk] at HI HLW hl5 HRR
 clear hwk
 rw [← hl5] at HI ⊢
 clear own4 hg4 hgg hLo kL hsrc HI0 f0 f1 f2 f3 f4 f5 f6 f7 g0 g1 g2 g3 g4 g5 g6 g7 hl5
 have kV:=(Kept.refl W4).alloc (.cells #[.int .i64 ckd,.slice a2 n2 k2,.slice a3 n3 k3] 30)
 have hV:=RowL.alloc 30 W4 [.int .i64 ckd,.slice a2 n2 k2,.slice a3 n3 k3]
 have f0:=HI.out.row.cell 0 (.string s1)
 have f1:=HI.out.row.cell 1 (.slice (some ⟨b,off,none⟩) n1 k1)
 have f2:=HI.out.row.cell 2 (.string s3)
 have f3:=HI.out.row.cell 3 (.int .i64 cm)
 have f4:=HI.out.row.cell 4 (.int .i64 cx)
 have f5:=HI.out.row.cell 5 (.int .i64 ckd)
 have f6:=HI.out.row.cell 6 (.slice a2 n2 k2)
 have f7:=HI.out.row.cell 7 (.slice a3 n3 k3)
 have g0:=(HI.out.row.kept kV).cell 0 (.string s1)
 have g1:=(HI.out.row.kept kV).cell 1 (.slice (some ⟨b,off,none⟩) n1 k1)
 have g2:=(HI.out.row.kept kV).cell 2 (.string s3)
 have g3:=(HI.out.row.kept kV).cell 3 (.int .i64 cm)
 have g4:=(HI.out.row.kept kV).cell 4 (.int .i64 cx)
 have g5:=(HI.out.row.kept kV).cell 5 (.int .i64 ckd)
 have g6:=(HI.out.row.kept kV).cell 6 (.slice a2 n2 k2)
 have g7:=(HI.out.row.kept kV).cell 7 (.slice a3 n3 k3)
 have HI:=hid' (HI.out.kept kV)
 have HV:=hid' hV
 clear kV hV
 go_wp2_with fail
 generalize W4.alloc (.cells #[.int .i64 ckd,.slice a2 n2 k2,.slice a3 n3 k3] 30) = W5 at HI HV g0 g1 g2 g3 g4 g5 g6 g7 ⊢
 refine (rtx7_any cm cx _).mono ?_
 rintro e w6 ⟨hk6,rfl⟩
 obtain ⟨tv,htv⟩:∃ t,t = bs (tx (cm,cx)):=⟨_,rfl⟩
 rw [← htv]
 have Htv:=hid' htv
 have HI:=hid' (HI.out.kept hk6)
 clear htv hk6 f0 f1 f2 f3 f4 f5 f6 f7 g0 g1 g2 g3 g4 g5 g6 g7 HV
 have KA:=(Kept.refl w6).alloc (.cells #[.string tv] 9)
 go_wp2_with (at_builtin; refine wpList_append_lies _ rfl (.tmp 30) (.tmp 34) 22 rfl (w.heap.size + 1) 9 i0 (.string ByteArray.empty) 1 16 X.und_strs hi hz0 hz1 hz2 rfl (by decide) _ wk.length (strs wk) rfl (by exact (HI.out.kept KA).own) ⟨w6.heap.size,0,none⟩ 1 1 [.string tv] rfl rfl (X.cell_new w6 _ _) (fun u hu => by simp at hu; subst hu; rfl) (by omega) (by have:=HLW.out; unfold maxLen; omega) (by have:=HLW.out; omega) (by have:=HB.out; have:=HI.out.kp.size; have:=HI.out.row.lt; have:=HI.out.le; simp; omega) _ rfl ?_)
 intro q5 cap5 W6 own5 hg5 hgg5 _
 have HI:=hid' (HI.out.add (news:=[tv.data.toList]) KA own5 rfl hg5)
 clear own5 hg5 hgg5 KA
 go_wp2_with fail
 go_ret2
 refine ⟨HI.out.kp,_,rfl,?_⟩
 rw [HRR.out]
 have:=own_mono HI.out.own (Nat.le_succ w.heap.size)
 rw [Htv.out,bs_list] at this
 exact this
set_option maxRecDepth 100000 in
set_option maxHeartbeats 8000000 in
theorem rwr_l101 (a1 a2 a3:Option Addr) (n1 k1 n2 k2 n3 k3:Nat) (c:Cd) (w:World) (hc:CdR w a1 n1 k1 a2 n2 k2 a3 n3 k3 c) (hR:RightC c) (hq:c.name.getD 0 0 = 101) :
  Calls Tryz.prog 23 #[cdV c (.slice a1 n1 k1) (.slice a2 n2 k2) (.slice a3 n3 k3)] w fun e w' => Kept w w'∧∃ u,e = .returned (.tuple #[u,.int .i64 0])∧OwnS w.heap.size w' u (cwords c):=by
 have hln:=right_lens hR
 have HLN:=hid' (show n1 = c.nodes.length∧n2 = c.vals.length∧n3 = c.steps.length from ⟨rs_len hc.nodes,hc.vals.len,hc.steps.len⟩)
 have hri:=fun V (K:Kept w V) => right_any a1 a2 a3 n1 k1 n2 k2 n3 k3 c V (hc.kept K) hln.2.2.2.1 hln.2.2.2.2.1 hln.2.2.2.2.2 ⟨by have:=HLN.out; have:=hln.1; omega,by have:=HLN.out; have:=hln.2.1; omega,by have:=HLN.out; have:=hln.2.2.1; omega⟩
 rw [(right_iff c).2 hR] at hri
 have hcw:cwords c = ([c.name] ++ c.nodes) ++ [tx c.val]:=by
  unfold cwords
  rw [hq,if_neg (by decide),if_pos (by decide),if_neg (by decide)]
  simp
 obtain ⟨R,hRR⟩:∃ l,l = cwords c:=⟨_,rfl⟩
 rw [← hRR]
 have HRR:=hid' (hRR.trans hcw)
 clear hRR
 have hn1:0 < n1∧n1≤8:=by
  have h1:=hR.cnt
  have h2:=HLN.out.1
  have h3:=hln.1
  rw [hq] at h1
  unfold nodesN at h1
  have:=of_decide_eq_true h1
  omega
 have HWV:=hid' (hR.wav)
 rw [hq] at HWV
 have hh:=dev_len hR.dev
 have HC:=hid' hc
 clear hR hc hcw hln
 obtain ⟨cn,cnd,cr,⟨cm,cx⟩,ckd,cvs,css⟩:=c
 unfold cdV at hri ⊢
 simp only at hri hh hq HWV HLN HRR ⊢
 obtain ⟨s1,hs1⟩:∃ s,s = bs cn:=⟨_,rfl⟩
 obtain ⟨s3,hs3⟩:∃ s,s = bs cr:=⟨_,rfl⟩
 rw [← hs1,← hs3] at hri ⊢
 have hsz:0 < s1.size:=by rw [hs1,bs_size]; exact hh
 have hszi:(0:Int) < (s1.size:Int):=by omega
 have eh:s1[0].toNat = 101:=by rw [head_of hsz hs1,hq]; rfl
 have HE:=hid' (show s1.data.toList = cn∧s3.data.toList = cr by rw [hs1,hs3]; exact ⟨bs_list _,bs_list _⟩)
 obtain ⟨i0,hi,hz0,hz1,hz2⟩:=info_parts X.info_str
 clear hs1 hs3 hh hq
 go_enter Tryz.func23,Tryz.ntmps23
 go_wp2_with fail
 have hK:=(Kept.refl w).alloc (.cells #[.string s1,.slice a1 n1 k1,.string s3,.int .i64 cm,.int .i64 cx,.int .i64 ckd,.slice a2 n2 k2,.slice a3 n3 k3] 32)
 have hA:=RowL.alloc 32 w [.string s1,.slice a1 n1 k1,.string s3,.int .i64 cm,.int .i64 cx,.int .i64 ckd,.slice a2 n2 k2,.slice a3 n3 k3]
 generalize w.alloc (.cells #[.string s1,.slice a1 n1 k1,.string s3,.int .i64 cm,.int .i64 cx,.int .i64 ckd,.slice a2 n2 k2,.slice a3 n3 k3] 32) = W0 at hK hA ⊢
 obtain ⟨p,hp⟩:∃ q,q = w.heap.size:=⟨_,rfl⟩
 rw [← hp] at hA ⊢
 have HP:=hid' hp
 clear hp
 refine (hri _ hK).mono ?_
 rintro e w1 ⟨hk1,rfl⟩
 have HW:=hid' (And.intro (hK.trans hk1) (hA.kept hk1))
 have kL:=(Kept.refl w1).alloc (.cells #[.string s1] 9)
 have f0:=HW.out.2.cell 0 (.string s1)
 have f1:=HW.out.2.cell 1 (.slice a1 n1 k1)
 have f2:=HW.out.2.cell 2 (.string s3)
 have f3:=HW.out.2.cell 3 (.int .i64 cm)
 have f4:=HW.out.2.cell 4 (.int .i64 cx)
 have f5:=HW.out.2.cell 5 (.int .i64 ckd)
 have f6:=HW.out.2.cell 6 (.slice a2 n2 k2)
 have f7:=HW.out.2.cell 7 (.slice a3 n3 k3)
 have g0:=(HW.out.2.kept kL).cell 0 (.string s1)
 have g1:=(HW.out.2.kept kL).cell 1 (.slice a1 n1 k1)
 have g2:=(HW.out.2.kept kL).cell 2 (.string s3)
 have g3:=(HW.out.2.kept kL).cell 3 (.int .i64 cm)
 have g4:=(HW.out.2.kept kL).cell 4 (.int .i64 cx)
 have g5:=(HW.out.2.kept kL).cell 5 (.int .i64 ckd)
 have g6:=(HW.out.2.kept kL).cell 6 (.slice a2 n2 k2)
 have g7:=(HW.out.2.kept kL).cell 7 (.slice a3 n3 k3)
 have HB:=hid' (show w.heap.size + 1≤w1.heap.size by have:=HW.out.2.lt; have:=HP.out; omega)
 have hLo:=lit_own w1 (w.heap.size + 1) s1 HB.out
 obtain ⟨b,off,rfl,hsrc⟩:∃ b off,a1 = some ⟨b,off,none⟩∧∀ j u,(strs cnd)[j]? = some u→(w1.alloc (.cells #[.string s1] 9)).cell? ((⟨b,off,none⟩:Addr).add j) = some u:=by
  obtain ⟨ad,e,h⟩:=strs_src (HC.out.nodes.kept (HW.out.1.trans kL)) hn1.1
  obtain ⟨b,off,spot⟩:=ad
  have hsp:spot = none:=by
   have h0:=h 0 _ (X.strs_at cnd 0 (by have h9:=hn1.1; rw [HLN.out.1] at h9; exact h9))
   simp [Addr.add] at h0
   exact World.cell?_spot h0
  subst hsp
  exact ⟨b,off,e,h⟩
 clear hK hA hk1 hri
 go_wp2_with (at_builtin; refine wpList_append_lies _ rfl (.tmp 14) (.tmp 16) 22 rfl (w.heap.size + 1) 9 i0 (.string ByteArray.empty) 1 16 X.und_strs hi hz0 hz1 hz2 rfl (by decide) (.slice (some ⟨w1.heap.size,0,none⟩) 1 1) 1 (strs [s1.data.toList]) rfl (by exact hLo) ⟨b,off,none⟩ n1 k1 (strs cnd) rfl (by rw [X.strs_len,HLN.out.1]) hsrc (X.strs_one cnd) (by omega) (by unfold maxLen; omega) (by omega) (by have:=HB.out; simp; omega) _ rfl ?_)
 intro q4 cap4 W4 own4 hg4 hgg _
 have HI0:Hid (CwI w w1 p 32 [.string s1,.slice (some ⟨b,off,none⟩) n1 k1,.string s3,.int .i64 cm,.int .i64 cx,.int .i64 ckd,.slice a2 n2 k2,.slice a3 n3 k3] (.slice (some ⟨w1.heap.size,0,none⟩) 1 1) [])→True:=fun _ => trivial
 have HI:Hid (CwI w W4 p 32 [.string s1,.slice (some ⟨b,off,none⟩) n1 k1,.string s3,.int .i64 cm,.int .i64 cx,.int .i64 ckd,.slice a2 n2 k2,.slice a3 n3 k3] (.slice (some ⟨q4,0,none⟩) (1 + n1) cap4) ([cn] ++ cnd)):=by
  have hl2:CwI w (w1.alloc (.cells #[.string s1] 9)) p 32 [.string s1,.slice (some ⟨b,off,none⟩) n1 k1,.string s3,.int .i64 cm,.int .i64 cx,.int .i64 ckd,.slice a2 n2 k2,.slice a3 n3 k3] (.slice (some ⟨w1.heap.size,0,none⟩) 1 1) [cn]:=⟨HW.out.1.trans kL,by rw [HP.out]; exact Nat.le_refl _,HW.out.2.kept kL,by rw [← HE.out.1]; exact hLo⟩
  refine hl2.add (news:=cnd) (Kept.refl _) ?_ (by rw [List.length_singleton,HLN.out.1]) hg4
  rw [HE.out.1] at own4
  exact own4
 have HLW:=hid' (show ([cn] ++ cnd).length≤40 by rw [List.length_append,List.length_singleton,← HLN.out.1]; omega)
 have hl5:([cn] ++ cnd).length = 1 + n1:=by rw [List.length_append,List.length_singleton,HLN.out.1]
 obtain ⟨wk,hwk⟩:∃ l,l = [cn] ++ cnd:=⟨_,rfl⟩
 rw [← hwk] at HI HLW hl5 HRR
 clear hwk
 rw [← hl5] at HI ⊢
 clear own4 hg4 hgg hLo kL hsrc HI0 f0 f1 f2 f3 f4 f5 f6 f7 g0 g1 g2 g3 g4 g5 g6 g7 hl5
 have kV:=(Kept.refl W4).alloc (.cells #[.int .i64 ckd,.slice a2 n2 k2,.slice a3 n3 k3] 30)
 have hV:=RowL.alloc 30 W4 [.int .i64 ckd,.slice a2 n2 k2,.slice a3 n3 k3]
 have f0:=HI.out.row.cell 0 (.string s1)
 have f1:=HI.out.row.cell 1 (.slice (some ⟨b,off,none⟩) n1 k1)
 have f2:=HI.out.row.cell 2 (.string s3)
 have f3:=HI.out.row.cell 3 (.int .i64 cm)
 have f4:=HI.out.row.cell 4 (.int .i64 cx)
 have f5:=HI.out.row.cell 5 (.int .i64 ckd)
 have f6:=HI.out.row.cell 6 (.slice a2 n2 k2)
 have f7:=HI.out.row.cell 7 (.slice a3 n3 k3)
 have g0:=(HI.out.row.kept kV).cell 0 (.string s1)
 have g1:=(HI.out.row.kept kV).cell 1 (.slice (some ⟨b,off,none⟩) n1 k1)
 have g2:=(HI.out.row.kept kV).cell 2 (.string s3)
 have g3:=(HI.out.row.kept kV).cell 3 (.int .i64 cm)
 have g4:=(HI.out.row.kept kV).cell 4 (.int .i64 cx)
 have g5:=(HI.out.row.kept kV).cell 5 (.int .i64 ckd)
 have g6:=(HI.out.row.kept kV).cell 6 (.slice a2 n2 k2)
 have g7:=(HI.out.row.kept kV).cell 7 (.slice a3 n3 k3)
 have HI:=hid' (HI.out.kept kV)
 have HV:=hid' hV
 clear kV hV
 go_wp2_with fail
 generalize W4.alloc (.cells #[.int .i64 ckd,.slice a2 n2 k2,.slice a3 n3 k3] 30) = W5 at HI HV g0 g1 g2 g3 g4 g5 g6 g7 ⊢
 refine (rtx7_any cm cx _).mono ?_
 rintro e w6 ⟨hk6,rfl⟩
 obtain ⟨tv,htv⟩:∃ t,t = bs (tx (cm,cx)):=⟨_,rfl⟩
 rw [← htv]
 have Htv:=hid' htv
 have HI:=hid' (HI.out.kept hk6)
 clear htv hk6 f0 f1 f2 f3 f4 f5 f6 f7 g0 g1 g2 g3 g4 g5 g6 g7 HV
 have KA:=(Kept.refl w6).alloc (.cells #[.string tv] 9)
 go_wp2_with (at_builtin; refine wpList_append_lies _ rfl (.tmp 30) (.tmp 34) 22 rfl (w.heap.size + 1) 9 i0 (.string ByteArray.empty) 1 16 X.und_strs hi hz0 hz1 hz2 rfl (by decide) _ wk.length (strs wk) rfl (by exact (HI.out.kept KA).own) ⟨w6.heap.size,0,none⟩ 1 1 [.string tv] rfl rfl (X.cell_new w6 _ _) (fun u hu => by simp at hu; subst hu; rfl) (by omega) (by have:=HLW.out; unfold maxLen; omega) (by have:=HLW.out; omega) (by have:=HB.out; have:=HI.out.kp.size; have:=HI.out.row.lt; have:=HI.out.le; simp; omega) _ rfl ?_)
 intro q5 cap5 W6 own5 hg5 hgg5 _
 have HI:=hid' (HI.out.add (news:=[tv.data.toList]) KA own5 rfl hg5)
 clear own5 hg5 hgg5 KA
 go_wp2_with fail
 go_ret2
 refine ⟨HI.out.kp,_,rfl,?_⟩
 rw [HRR.out]
 have:=own_mono HI.out.own (Nat.le_succ w.heap.size)
 rw [Htv.out,bs_list] at this
 exact this
set_option maxRecDepth 100000 in
set_option maxHeartbeats 8000000 in
theorem rwr_l103 (a1 a2 a3:Option Addr) (n1 k1 n2 k2 n3 k3:Nat) (c:Cd) (w:World) (hc:CdR w a1 n1 k1 a2 n2 k2 a3 n3 k3 c) (hR:RightC c) (hq:c.name.getD 0 0 = 103) :
  Calls Tryz.prog 23 #[cdV c (.slice a1 n1 k1) (.slice a2 n2 k2) (.slice a3 n3 k3)] w fun e w' => Kept w w'∧∃ u,e = .returned (.tuple #[u,.int .i64 0])∧OwnS w.heap.size w' u (cwords c):=by
 have hln:=right_lens hR
 have HLN:=hid' (show n1 = c.nodes.length∧n2 = c.vals.length∧n3 = c.steps.length from ⟨rs_len hc.nodes,hc.vals.len,hc.steps.len⟩)
 have hri:=fun V (K:Kept w V) => right_any a1 a2 a3 n1 k1 n2 k2 n3 k3 c V (hc.kept K) hln.2.2.2.1 hln.2.2.2.2.1 hln.2.2.2.2.2 ⟨by have:=HLN.out; have:=hln.1; omega,by have:=HLN.out; have:=hln.2.1; omega,by have:=HLN.out; have:=hln.2.2.1; omega⟩
 rw [(right_iff c).2 hR] at hri
 have hcw:cwords c = ([c.name] ++ c.nodes) ++ [tx c.val]:=by
  unfold cwords
  rw [hq,if_neg (by decide),if_pos (by decide),if_neg (by decide)]
  simp
 obtain ⟨R,hRR⟩:∃ l,l = cwords c:=⟨_,rfl⟩
 rw [← hRR]
 have HRR:=hid' (hRR.trans hcw)
 clear hRR
 have hn1:0 < n1∧n1≤8:=by
  have h1:=hR.cnt
  have h2:=HLN.out.1
  have h3:=hln.1
  rw [hq] at h1
  unfold nodesN at h1
  have:=of_decide_eq_true h1
  omega
 have HWV:=hid' (hR.wav)
 rw [hq] at HWV
 have hh:=dev_len hR.dev
 have HC:=hid' hc
 clear hR hc hcw hln
 obtain ⟨cn,cnd,cr,⟨cm,cx⟩,ckd,cvs,css⟩:=c
 unfold cdV at hri ⊢
 simp only at hri hh hq HWV HLN HRR ⊢
 obtain ⟨s1,hs1⟩:∃ s,s = bs cn:=⟨_,rfl⟩
 obtain ⟨s3,hs3⟩:∃ s,s = bs cr:=⟨_,rfl⟩
 rw [← hs1,← hs3] at hri ⊢
 have hsz:0 < s1.size:=by rw [hs1,bs_size]; exact hh
 have hszi:(0:Int) < (s1.size:Int):=by omega
 have eh:s1[0].toNat = 103:=by rw [head_of hsz hs1,hq]; rfl
 have HE:=hid' (show s1.data.toList = cn∧s3.data.toList = cr by rw [hs1,hs3]; exact ⟨bs_list _,bs_list _⟩)
 obtain ⟨i0,hi,hz0,hz1,hz2⟩:=info_parts X.info_str
 clear hs1 hs3 hh hq
 go_enter Tryz.func23,Tryz.ntmps23
 go_wp2_with fail
 have hK:=(Kept.refl w).alloc (.cells #[.string s1,.slice a1 n1 k1,.string s3,.int .i64 cm,.int .i64 cx,.int .i64 ckd,.slice a2 n2 k2,.slice a3 n3 k3] 32)
 have hA:=RowL.alloc 32 w [.string s1,.slice a1 n1 k1,.string s3,.int .i64 cm,.int .i64 cx,.int .i64 ckd,.slice a2 n2 k2,.slice a3 n3 k3]
 generalize w.alloc (.cells #[.string s1,.slice a1 n1 k1,.string s3,.int .i64 cm,.int .i64 cx,.int .i64 ckd,.slice a2 n2 k2,.slice a3 n3 k3] 32) = W0 at hK hA ⊢
 obtain ⟨p,hp⟩:∃ q,q = w.heap.size:=⟨_,rfl⟩
 rw [← hp] at hA ⊢
 have HP:=hid' hp
 clear hp
 refine (hri _ hK).mono ?_
 rintro e w1 ⟨hk1,rfl⟩
 have HW:=hid' (And.intro (hK.trans hk1) (hA.kept hk1))
 have kL:=(Kept.refl w1).alloc (.cells #[.string s1] 9)
 have f0:=HW.out.2.cell 0 (.string s1)
 have f1:=HW.out.2.cell 1 (.slice a1 n1 k1)
 have f2:=HW.out.2.cell 2 (.string s3)
 have f3:=HW.out.2.cell 3 (.int .i64 cm)
 have f4:=HW.out.2.cell 4 (.int .i64 cx)
 have f5:=HW.out.2.cell 5 (.int .i64 ckd)
 have f6:=HW.out.2.cell 6 (.slice a2 n2 k2)
 have f7:=HW.out.2.cell 7 (.slice a3 n3 k3)
 have g0:=(HW.out.2.kept kL).cell 0 (.string s1)
 have g1:=(HW.out.2.kept kL).cell 1 (.slice a1 n1 k1)
 have g2:=(HW.out.2.kept kL).cell 2 (.string s3)
 have g3:=(HW.out.2.kept kL).cell 3 (.int .i64 cm)
 have g4:=(HW.out.2.kept kL).cell 4 (.int .i64 cx)
 have g5:=(HW.out.2.kept kL).cell 5 (.int .i64 ckd)
 have g6:=(HW.out.2.kept kL).cell 6 (.slice a2 n2 k2)
 have g7:=(HW.out.2.kept kL).cell 7 (.slice a3 n3 k3)
 have HB:=hid' (show w.heap.size + 1≤w1.heap.size by have:=HW.out.2.lt; have:=HP.out; omega)
 have hLo:=lit_own w1 (w.heap.size + 1) s1 HB.out
 obtain ⟨b,off,rfl,hsrc⟩:∃ b off,a1 = some ⟨b,off,none⟩∧∀ j u,(strs cnd)[j]? = some u→(w1.alloc (.cells #[.string s1] 9)).cell? ((⟨b,off,none⟩:Addr).add j) = some u:=by
  obtain ⟨ad,e,h⟩:=strs_src (HC.out.nodes.kept (HW.out.1.trans kL)) hn1.1
  obtain ⟨b,off,spot⟩:=ad
  have hsp:spot = none:=by
   have h0:=h 0 _ (X.strs_at cnd 0 (by have h9:=hn1.1; rw [HLN.out.1] at h9; exact h9))
   simp [Addr.add] at h0
   exact World.cell?_spot h0
  subst hsp
  exact ⟨b,off,e,h⟩
 clear hK hA hk1 hri
 go_wp2_with (at_builtin; refine wpList_append_lies _ rfl (.tmp 14) (.tmp 16) 22 rfl (w.heap.size + 1) 9 i0 (.string ByteArray.empty) 1 16 X.und_strs hi hz0 hz1 hz2 rfl (by decide) (.slice (some ⟨w1.heap.size,0,none⟩) 1 1) 1 (strs [s1.data.toList]) rfl (by exact hLo) ⟨b,off,none⟩ n1 k1 (strs cnd) rfl (by rw [X.strs_len,HLN.out.1]) hsrc (X.strs_one cnd) (by omega) (by unfold maxLen; omega) (by omega) (by have:=HB.out; simp; omega) _ rfl ?_)
 intro q4 cap4 W4 own4 hg4 hgg _
 have HI0:Hid (CwI w w1 p 32 [.string s1,.slice (some ⟨b,off,none⟩) n1 k1,.string s3,.int .i64 cm,.int .i64 cx,.int .i64 ckd,.slice a2 n2 k2,.slice a3 n3 k3] (.slice (some ⟨w1.heap.size,0,none⟩) 1 1) [])→True:=fun _ => trivial
 have HI:Hid (CwI w W4 p 32 [.string s1,.slice (some ⟨b,off,none⟩) n1 k1,.string s3,.int .i64 cm,.int .i64 cx,.int .i64 ckd,.slice a2 n2 k2,.slice a3 n3 k3] (.slice (some ⟨q4,0,none⟩) (1 + n1) cap4) ([cn] ++ cnd)):=by
  have hl2:CwI w (w1.alloc (.cells #[.string s1] 9)) p 32 [.string s1,.slice (some ⟨b,off,none⟩) n1 k1,.string s3,.int .i64 cm,.int .i64 cx,.int .i64 ckd,.slice a2 n2 k2,.slice a3 n3 k3] (.slice (some ⟨w1.heap.size,0,none⟩) 1 1) [cn]:=⟨HW.out.1.trans kL,by rw [HP.out]; exact Nat.le_refl _,HW.out.2.kept kL,by rw [← HE.out.1]; exact hLo⟩
  refine hl2.add (news:=cnd) (Kept.refl _) ?_ (by rw [List.length_singleton,HLN.out.1]) hg4
  rw [HE.out.1] at own4
  exact own4
 have HLW:=hid' (show ([cn] ++ cnd).length≤40 by rw [List.length_append,List.length_singleton,← HLN.out.1]; omega)
 have hl5:([cn] ++ cnd).length = 1 + n1:=by rw [List.length_append,List.length_singleton,HLN.out.1]
 obtain ⟨wk,hwk⟩:∃ l,l = [cn] ++ cnd:=⟨_,rfl⟩
 rw [← hwk] at HI HLW hl5 HRR
 clear hwk
 rw [← hl5] at HI ⊢
 clear own4 hg4 hgg hLo kL hsrc HI0 f0 f1 f2 f3 f4 f5 f6 f7 g0 g1 g2 g3 g4 g5 g6 g7 hl5
 have kV:=(Kept.refl W4).alloc (.cells #[.int .i64 ckd,.slice a2 n2 k2,.slice a3 n3 k3] 30)
 have hV:=RowL.alloc 30 W4 [.int .i64 ckd,.slice a2 n2 k2,.slice a3 n3 k3]
 have f0:=HI.out.row.cell 0 (.string s1)
 have f1:=HI.out.row.cell 1 (.slice (some ⟨b,off,none⟩) n1 k1)
 have f2:=HI.out.row.cell 2 (.string s3)
 have f3:=HI.out.row.cell 3 (.int .i64 cm)
 have f4:=HI.out.row.cell 4 (.int .i64 cx)
 have f5:=HI.out.row.cell 5 (.int .i64 ckd)
 have f6:=HI.out.row.cell 6 (.slice a2 n2 k2)
 have f7:=HI.out.row.cell 7 (.slice a3 n3 k3)
 have g0:=(HI.out.row.kept kV).cell 0 (.string s1)
 have g1:=(HI.out.row.kept kV).cell 1 (.slice (some ⟨b,off,none⟩) n1 k1)
 have g2:=(HI.out.row.kept kV).cell 2 (.string s3)
 have g3:=(HI.out.row.kept kV).cell 3 (.int .i64 cm)
 have g4:=(HI.out.row.kept kV).cell 4 (.int .i64 cx)
 have g5:=(HI.out.row.kept kV).cell 5 (.int .i64 ckd)
 have g6:=(HI.out.row.kept kV).cell 6 (.slice a2 n2 k2)
 have g7:=(HI.out.row.kept kV).cell 7 (.slice a3 n3 k3)
 have HI:=hid' (HI.out.kept kV)
 have HV:=hid' hV
 clear kV hV
 go_wp2_with fail
 generalize W4.alloc (.cells #[.int .i64 ckd,.slice a2 n2 k2,.slice a3 n3 k3] 30) = W5 at HI HV g0 g1 g2 g3 g4 g5 g6 g7 ⊢
 refine (rtx7_any cm cx _).mono ?_
 rintro e w6 ⟨hk6,rfl⟩
 obtain ⟨tv,htv⟩:∃ t,t = bs (tx (cm,cx)):=⟨_,rfl⟩
 rw [← htv]
 have Htv:=hid' htv
 have HI:=hid' (HI.out.kept hk6)
 clear htv hk6 f0 f1 f2 f3 f4 f5 f6 f7 g0 g1 g2 g3 g4 g5 g6 g7 HV
 have KA:=(Kept.refl w6).alloc (.cells #[.string tv] 9)
 go_wp2_with (at_builtin; refine wpList_append_lies _ rfl (.tmp 30) (.tmp 34) 22 rfl (w.heap.size + 1) 9 i0 (.string ByteArray.empty) 1 16 X.und_strs hi hz0 hz1 hz2 rfl (by decide) _ wk.length (strs wk) rfl (by exact (HI.out.kept KA).own) ⟨w6.heap.size,0,none⟩ 1 1 [.string tv] rfl rfl (X.cell_new w6 _ _) (fun u hu => by simp at hu; subst hu; rfl) (by omega) (by have:=HLW.out; unfold maxLen; omega) (by have:=HLW.out; omega) (by have:=HB.out; have:=HI.out.kp.size; have:=HI.out.row.lt; have:=HI.out.le; simp; omega) _ rfl ?_)
 intro q5 cap5 W6 own5 hg5 hgg5 _
 have HI:=hid' (HI.out.add (news:=[tv.data.toList]) KA own5 rfl hg5)
 clear own5 hg5 hgg5 KA
 go_wp2_with fail
 go_ret2
 refine ⟨HI.out.kp,_,rfl,?_⟩
 rw [HRR.out]
 have:=own_mono HI.out.own (Nat.le_succ w.heap.size)
 rw [Htv.out,bs_list] at this
 exact this
set_option maxRecDepth 100000 in
set_option maxHeartbeats 8000000 in
theorem rwr_l116 (a1 a2 a3:Option Addr) (n1 k1 n2 k2 n3 k3:Nat) (c:Cd) (w:World) (hc:CdR w a1 n1 k1 a2 n2 k2 a3 n3 k3 c) (hR:RightC c) (hq:c.name.getD 0 0 = 116) :
  Calls Tryz.prog 23 #[cdV c (.slice a1 n1 k1) (.slice a2 n2 k2) (.slice a3 n3 k3)] w fun e w' => Kept w w'∧∃ u,e = .returned (.tuple #[u,.int .i64 0])∧OwnS w.heap.size w' u (cwords c):=by
 have hln:=right_lens hR
 have HLN:=hid' (show n1 = c.nodes.length∧n2 = c.vals.length∧n3 = c.steps.length from ⟨rs_len hc.nodes,hc.vals.len,hc.steps.len⟩)
 have hri:=fun V (K:Kept w V) => right_any a1 a2 a3 n1 k1 n2 k2 n3 k3 c V (hc.kept K) hln.2.2.2.1 hln.2.2.2.2.1 hln.2.2.2.2.2 ⟨by have:=HLN.out; have:=hln.1; omega,by have:=HLN.out; have:=hln.2.1; omega,by have:=HLN.out; have:=hln.2.2.1; omega⟩
 rw [(right_iff c).2 hR] at hri
 have hcw:cwords c = ([c.name] ++ c.nodes) ++ [tx c.val]:=by
  unfold cwords
  rw [hq,if_neg (by decide),if_pos (by decide),if_neg (by decide)]
  simp
 obtain ⟨R,hRR⟩:∃ l,l = cwords c:=⟨_,rfl⟩
 rw [← hRR]
 have HRR:=hid' (hRR.trans hcw)
 clear hRR
 have hn1:0 < n1∧n1≤8:=by
  have h1:=hR.cnt
  have h2:=HLN.out.1
  have h3:=hln.1
  rw [hq] at h1
  unfold nodesN at h1
  have:=of_decide_eq_true h1
  omega
 have HWV:=hid' (hR.wav)
 rw [hq] at HWV
 have hh:=dev_len hR.dev
 have HC:=hid' hc
 clear hR hc hcw hln
 obtain ⟨cn,cnd,cr,⟨cm,cx⟩,ckd,cvs,css⟩:=c
 unfold cdV at hri ⊢
 simp only at hri hh hq HWV HLN HRR ⊢
 obtain ⟨s1,hs1⟩:∃ s,s = bs cn:=⟨_,rfl⟩
 obtain ⟨s3,hs3⟩:∃ s,s = bs cr:=⟨_,rfl⟩
 rw [← hs1,← hs3] at hri ⊢
 have hsz:0 < s1.size:=by rw [hs1,bs_size]; exact hh
 have hszi:(0:Int) < (s1.size:Int):=by omega
 have eh:s1[0].toNat = 116:=by rw [head_of hsz hs1,hq]; rfl
 have HE:=hid' (show s1.data.toList = cn∧s3.data.toList = cr by rw [hs1,hs3]; exact ⟨bs_list _,bs_list _⟩)
 obtain ⟨i0,hi,hz0,hz1,hz2⟩:=info_parts X.info_str
 clear hs1 hs3 hh hq
 go_enter Tryz.func23,Tryz.ntmps23
 go_wp2_with fail
 have hK:=(Kept.refl w).alloc (.cells #[.string s1,.slice a1 n1 k1,.string s3,.int .i64 cm,.int .i64 cx,.int .i64 ckd,.slice a2 n2 k2,.slice a3 n3 k3] 32)
 have hA:=RowL.alloc 32 w [.string s1,.slice a1 n1 k1,.string s3,.int .i64 cm,.int .i64 cx,.int .i64 ckd,.slice a2 n2 k2,.slice a3 n3 k3]
 generalize w.alloc (.cells #[.string s1,.slice a1 n1 k1,.string s3,.int .i64 cm,.int .i64 cx,.int .i64 ckd,.slice a2 n2 k2,.slice a3 n3 k3] 32) = W0 at hK hA ⊢
 obtain ⟨p,hp⟩:∃ q,q = w.heap.size:=⟨_,rfl⟩
 rw [← hp] at hA ⊢
 have HP:=hid' hp
 clear hp
 refine (hri _ hK).mono ?_
 rintro e w1 ⟨hk1,rfl⟩
 have HW:=hid' (And.intro (hK.trans hk1) (hA.kept hk1))
 have kL:=(Kept.refl w1).alloc (.cells #[.string s1] 9)
 have f0:=HW.out.2.cell 0 (.string s1)
 have f1:=HW.out.2.cell 1 (.slice a1 n1 k1)
 have f2:=HW.out.2.cell 2 (.string s3)
 have f3:=HW.out.2.cell 3 (.int .i64 cm)
 have f4:=HW.out.2.cell 4 (.int .i64 cx)
 have f5:=HW.out.2.cell 5 (.int .i64 ckd)
 have f6:=HW.out.2.cell 6 (.slice a2 n2 k2)
 have f7:=HW.out.2.cell 7 (.slice a3 n3 k3)
 have g0:=(HW.out.2.kept kL).cell 0 (.string s1)
 have g1:=(HW.out.2.kept kL).cell 1 (.slice a1 n1 k1)
 have g2:=(HW.out.2.kept kL).cell 2 (.string s3)
 have g3:=(HW.out.2.kept kL).cell 3 (.int .i64 cm)
 have g4:=(HW.out.2.kept kL).cell 4 (.int .i64 cx)
 have g5:=(HW.out.2.kept kL).cell 5 (.int .i64 ckd)
 have g6:=(HW.out.2.kept kL).cell 6 (.slice a2 n2 k2)
 have g7:=(HW.out.2.kept kL).cell 7 (.slice a3 n3 k3)
 have HB:=hid' (show w.heap.size + 1≤w1.heap.size by have:=HW.out.2.lt; have:=HP.out; omega)
 have hLo:=lit_own w1 (w.heap.size + 1) s1 HB.out
 obtain ⟨b,off,rfl,hsrc⟩:∃ b off,a1 = some ⟨b,off,none⟩∧∀ j u,(strs cnd)[j]? = some u→(w1.alloc (.cells #[.string s1] 9)).cell? ((⟨b,off,none⟩:Addr).add j) = some u:=by
  obtain ⟨ad,e,h⟩:=strs_src (HC.out.nodes.kept (HW.out.1.trans kL)) hn1.1
  obtain ⟨b,off,spot⟩:=ad
  have hsp:spot = none:=by
   have h0:=h 0 _ (X.strs_at cnd 0 (by have h9:=hn1.1; rw [HLN.out.1] at h9; exact h9))
   simp [Addr.add] at h0
   exact World.cell?_spot h0
  subst hsp
  exact ⟨b,off,e,h⟩
 clear hK hA hk1 hri
 go_wp2_with (at_builtin; refine wpList_append_lies _ rfl (.tmp 14) (.tmp 16) 22 rfl (w.heap.size + 1) 9 i0 (.string ByteArray.empty) 1 16 X.und_strs hi hz0 hz1 hz2 rfl (by decide) (.slice (some ⟨w1.heap.size,0,none⟩) 1 1) 1 (strs [s1.data.toList]) rfl (by exact hLo) ⟨b,off,none⟩ n1 k1 (strs cnd) rfl (by rw [X.strs_len,HLN.out.1]) hsrc (X.strs_one cnd) (by omega) (by unfold maxLen; omega) (by omega) (by have:=HB.out; simp; omega) _ rfl ?_)
 intro q4 cap4 W4 own4 hg4 hgg _
 have HI0:Hid (CwI w w1 p 32 [.string s1,.slice (some ⟨b,off,none⟩) n1 k1,.string s3,.int .i64 cm,.int .i64 cx,.int .i64 ckd,.slice a2 n2 k2,.slice a3 n3 k3] (.slice (some ⟨w1.heap.size,0,none⟩) 1 1) [])→True:=fun _ => trivial
 have HI:Hid (CwI w W4 p 32 [.string s1,.slice (some ⟨b,off,none⟩) n1 k1,.string s3,.int .i64 cm,.int .i64 cx,.int .i64 ckd,.slice a2 n2 k2,.slice a3 n3 k3] (.slice (some ⟨q4,0,none⟩) (1 + n1) cap4) ([cn] ++ cnd)):=by
  have hl2:CwI w (w1.alloc (.cells #[.string s1] 9)) p 32 [.string s1,.slice (some ⟨b,off,none⟩) n1 k1,.string s3,.int .i64 cm,.int .i64 cx,.int .i64 ckd,.slice a2 n2 k2,.slice a3 n3 k3] (.slice (some ⟨w1.heap.size,0,none⟩) 1 1) [cn]:=⟨HW.out.1.trans kL,by rw [HP.out]; exact Nat.le_refl _,HW.out.2.kept kL,by rw [← HE.out.1]; exact hLo⟩
  refine hl2.add (news:=cnd) (Kept.refl _) ?_ (by rw [List.length_singleton,HLN.out.1]) hg4
  rw [HE.out.1] at own4
  exact own4
 have HLW:=hid' (show ([cn] ++ cnd).length≤40 by rw [List.length_append,List.length_singleton,← HLN.out.1]; omega)
 have hl5:([cn] ++ cnd).length = 1 + n1:=by rw [List.length_append,List.length_singleton,HLN.out.1]
 obtain ⟨wk,hwk⟩:∃ l,l = [cn] ++ cnd:=⟨_,rfl⟩
 rw [← hwk] at HI HLW hl5 HRR
 clear hwk
 rw [← hl5] at HI ⊢
 clear own4 hg4 hgg hLo kL hsrc HI0 f0 f1 f2 f3 f4 f5 f6 f7 g0 g1 g2 g3 g4 g5 g6 g7 hl5
 have kV:=(Kept.refl W4).alloc (.cells #[.int .i64 ckd,.slice a2 n2 k2,.slice a3 n3 k3] 30)
 have hV:=RowL.alloc 30 W4 [.int .i64 ckd,.slice a2 n2 k2,.slice a3 n3 k3]
 have f0:=HI.out.row.cell 0 (.string s1)
 have f1:=HI.out.row.cell 1 (.slice (some ⟨b,off,none⟩) n1 k1)
 have f2:=HI.out.row.cell 2 (.string s3)
 have f3:=HI.out.row.cell 3 (.int .i64 cm)
 have f4:=HI.out.row.cell 4 (.int .i64 cx)
 have f5:=HI.out.row.cell 5 (.int .i64 ckd)
 have f6:=HI.out.row.cell 6 (.slice a2 n2 k2)
 have f7:=HI.out.row.cell 7 (.slice a3 n3 k3)
 have g0:=(HI.out.row.kept kV).cell 0 (.string s1)
 have g1:=(HI.out.row.kept kV).cell 1 (.slice (some ⟨b,off,none⟩) n1 k1)
 have g2:=(HI.out.row.kept kV).cell 2 (.string s3)
 have g3:=(HI.out.row.kept kV).cell 3 (.int .i64 cm)
 have g4:=(HI.out.row.kept kV).cell 4 (.int .i64 cx)
 have g5:=(HI.out.row.kept kV).cell 5 (.int .i64 ckd)
 have g6:=(HI.out.row.kept kV).cell 6 (.slice a2 n2 k2)
 have g7:=(HI.out.row.kept kV).cell 7 (.slice a3 n3 k3)
 have HI:=hid' (HI.out.kept kV)
 have HV:=hid' hV
 clear kV hV
 go_wp2_with fail
 generalize W4.alloc (.cells #[.int .i64 ckd,.slice a2 n2 k2,.slice a3 n3 k3] 30) = W5 at HI HV g0 g1 g2 g3 g4 g5 g6 g7 ⊢
 refine (rtx7_any cm cx _).mono ?_
 rintro e w6 ⟨hk6,rfl⟩
 obtain ⟨tv,htv⟩:∃ t,t = bs (tx (cm,cx)):=⟨_,rfl⟩
 rw [← htv]
 have Htv:=hid' htv
 have HI:=hid' (HI.out.kept hk6)
 clear htv hk6 f0 f1 f2 f3 f4 f5 f6 f7 g0 g1 g2 g3 g4 g5 g6 g7 HV
 have KA:=(Kept.refl w6).alloc (.cells #[.string tv] 9)
 go_wp2_with (at_builtin; refine wpList_append_lies _ rfl (.tmp 30) (.tmp 34) 22 rfl (w.heap.size + 1) 9 i0 (.string ByteArray.empty) 1 16 X.und_strs hi hz0 hz1 hz2 rfl (by decide) _ wk.length (strs wk) rfl (by exact (HI.out.kept KA).own) ⟨w6.heap.size,0,none⟩ 1 1 [.string tv] rfl rfl (X.cell_new w6 _ _) (fun u hu => by simp at hu; subst hu; rfl) (by omega) (by have:=HLW.out; unfold maxLen; omega) (by have:=HLW.out; omega) (by have:=HB.out; have:=HI.out.kp.size; have:=HI.out.row.lt; have:=HI.out.le; simp; omega) _ rfl ?_)
 intro q5 cap5 W6 own5 hg5 hgg5 _
 have HI:=hid' (HI.out.add (news:=[tv.data.toList]) KA own5 rfl hg5)
 clear own5 hg5 hgg5 KA
 go_wp2_with fail
 go_ret2
 refine ⟨HI.out.kp,_,rfl,?_⟩
 rw [HRR.out]
 have:=own_mono HI.out.own (Nat.le_succ w.heap.size)
 rw [Htv.out,bs_list] at this
 exact this
set_option maxRecDepth 100000 in
set_option maxHeartbeats 8000000 in
theorem rwr_l102 (a1 a2 a3:Option Addr) (n1 k1 n2 k2 n3 k3:Nat) (c:Cd) (w:World) (hc:CdR w a1 n1 k1 a2 n2 k2 a3 n3 k3 c) (hR:RightC c) (hq:c.name.getD 0 0 = 102) :
  Calls Tryz.prog 23 #[cdV c (.slice a1 n1 k1) (.slice a2 n2 k2) (.slice a3 n3 k3)] w fun e w' => Kept w w'∧∃ u,e = .returned (.tuple #[u,.int .i64 0])∧OwnS w.heap.size w' u (cwords c):=by
 have hln:=right_lens hR
 have HLN:=hid' (show n1 = c.nodes.length∧n2 = c.vals.length∧n3 = c.steps.length from ⟨rs_len hc.nodes,hc.vals.len,hc.steps.len⟩)
 have hri:=fun V (K:Kept w V) => right_any a1 a2 a3 n1 k1 n2 k2 n3 k3 c V (hc.kept K) hln.2.2.2.1 hln.2.2.2.2.1 hln.2.2.2.2.2 ⟨by have:=HLN.out; have:=hln.1; omega,by have:=HLN.out; have:=hln.2.1; omega,by have:=HLN.out; have:=hln.2.2.1; omega⟩
 rw [(right_iff c).2 hR] at hri
 have hcw:cwords c = ([c.name] ++ c.nodes) ++ [c.ref,tx c.val]:=by
  unfold cwords
  rw [hq,if_pos (by decide),if_pos (by decide),if_neg (by decide)]
  simp
 obtain ⟨R,hRR⟩:∃ l,l = cwords c:=⟨_,rfl⟩
 rw [← hRR]
 have HRR:=hid' (hRR.trans hcw)
 clear hRR
 have hn1:0 < n1∧n1≤8:=by
  have h1:=hR.cnt
  have h2:=HLN.out.1
  have h3:=hln.1
  rw [hq] at h1
  unfold nodesN at h1
  have:=of_decide_eq_true h1
  omega
 have HWV:=hid' (hR.wav)
 rw [hq] at HWV
 have hh:=dev_len hR.dev
 have HC:=hid' hc
 clear hR hc hcw hln
 obtain ⟨cn,cnd,cr,⟨cm,cx⟩,ckd,cvs,css⟩:=c
 unfold cdV at hri ⊢
 simp only at hri hh hq HWV HLN HRR ⊢
 obtain ⟨s1,hs1⟩:∃ s,s = bs cn:=⟨_,rfl⟩
 obtain ⟨s3,hs3⟩:∃ s,s = bs cr:=⟨_,rfl⟩
 rw [← hs1,← hs3] at hri ⊢
 have hsz:0 < s1.size:=by rw [hs1,bs_size]; exact hh
 have hszi:(0:Int) < (s1.size:Int):=by omega
 have eh:s1[0].toNat = 102:=by rw [head_of hsz hs1,hq]; rfl
 have HE:=hid' (show s1.data.toList = cn∧s3.data.toList = cr by rw [hs1,hs3]; exact ⟨bs_list _,bs_list _⟩)
 obtain ⟨i0,hi,hz0,hz1,hz2⟩:=info_parts X.info_str
 clear hs1 hs3 hh hq
 go_enter Tryz.func23,Tryz.ntmps23
 go_wp2_with fail
 have hK:=(Kept.refl w).alloc (.cells #[.string s1,.slice a1 n1 k1,.string s3,.int .i64 cm,.int .i64 cx,.int .i64 ckd,.slice a2 n2 k2,.slice a3 n3 k3] 32)
 have hA:=RowL.alloc 32 w [.string s1,.slice a1 n1 k1,.string s3,.int .i64 cm,.int .i64 cx,.int .i64 ckd,.slice a2 n2 k2,.slice a3 n3 k3]
 generalize w.alloc (.cells #[.string s1,.slice a1 n1 k1,.string s3,.int .i64 cm,.int .i64 cx,.int .i64 ckd,.slice a2 n2 k2,.slice a3 n3 k3] 32) = W0 at hK hA ⊢
 obtain ⟨p,hp⟩:∃ q,q = w.heap.size:=⟨_,rfl⟩
 rw [← hp] at hA ⊢
 have HP:=hid' hp
 clear hp
 refine (hri _ hK).mono ?_
 rintro e w1 ⟨hk1,rfl⟩
 have HW:=hid' (And.intro (hK.trans hk1) (hA.kept hk1))
 have kL:=(Kept.refl w1).alloc (.cells #[.string s1] 9)
 have f0:=HW.out.2.cell 0 (.string s1)
 have f1:=HW.out.2.cell 1 (.slice a1 n1 k1)
 have f2:=HW.out.2.cell 2 (.string s3)
 have f3:=HW.out.2.cell 3 (.int .i64 cm)
 have f4:=HW.out.2.cell 4 (.int .i64 cx)
 have f5:=HW.out.2.cell 5 (.int .i64 ckd)
 have f6:=HW.out.2.cell 6 (.slice a2 n2 k2)
 have f7:=HW.out.2.cell 7 (.slice a3 n3 k3)
 have g0:=(HW.out.2.kept kL).cell 0 (.string s1)
 have g1:=(HW.out.2.kept kL).cell 1 (.slice a1 n1 k1)
 have g2:=(HW.out.2.kept kL).cell 2 (.string s3)
 have g3:=(HW.out.2.kept kL).cell 3 (.int .i64 cm)
 have g4:=(HW.out.2.kept kL).cell 4 (.int .i64 cx)
 have g5:=(HW.out.2.kept kL).cell 5 (.int .i64 ckd)
 have g6:=(HW.out.2.kept kL).cell 6 (.slice a2 n2 k2)
 have g7:=(HW.out.2.kept kL).cell 7 (.slice a3 n3 k3)
 have HB:=hid' (show w.heap.size + 1≤w1.heap.size by have:=HW.out.2.lt; have:=HP.out; omega)
 have hLo:=lit_own w1 (w.heap.size + 1) s1 HB.out
 obtain ⟨b,off,rfl,hsrc⟩:∃ b off,a1 = some ⟨b,off,none⟩∧∀ j u,(strs cnd)[j]? = some u→(w1.alloc (.cells #[.string s1] 9)).cell? ((⟨b,off,none⟩:Addr).add j) = some u:=by
  obtain ⟨ad,e,h⟩:=strs_src (HC.out.nodes.kept (HW.out.1.trans kL)) hn1.1
  obtain ⟨b,off,spot⟩:=ad
  have hsp:spot = none:=by
   have h0:=h 0 _ (X.strs_at cnd 0 (by have h9:=hn1.1; rw [HLN.out.1] at h9; exact h9))
   simp [Addr.add] at h0
   exact World.cell?_spot h0
  subst hsp
  exact ⟨b,off,e,h⟩
 clear hK hA hk1 hri
 go_wp2_with (at_builtin; refine wpList_append_lies _ rfl (.tmp 14) (.tmp 16) 22 rfl (w.heap.size + 1) 9 i0 (.string ByteArray.empty) 1 16 X.und_strs hi hz0 hz1 hz2 rfl (by decide) (.slice (some ⟨w1.heap.size,0,none⟩) 1 1) 1 (strs [s1.data.toList]) rfl (by exact hLo) ⟨b,off,none⟩ n1 k1 (strs cnd) rfl (by rw [X.strs_len,HLN.out.1]) hsrc (X.strs_one cnd) (by omega) (by unfold maxLen; omega) (by omega) (by have:=HB.out; simp; omega) _ rfl ?_)
 intro q4 cap4 W4 own4 hg4 hgg _
 have HI0:Hid (CwI w w1 p 32 [.string s1,.slice (some ⟨b,off,none⟩) n1 k1,.string s3,.int .i64 cm,.int .i64 cx,.int .i64 ckd,.slice a2 n2 k2,.slice a3 n3 k3] (.slice (some ⟨w1.heap.size,0,none⟩) 1 1) [])→True:=fun _ => trivial
 have HI:Hid (CwI w W4 p 32 [.string s1,.slice (some ⟨b,off,none⟩) n1 k1,.string s3,.int .i64 cm,.int .i64 cx,.int .i64 ckd,.slice a2 n2 k2,.slice a3 n3 k3] (.slice (some ⟨q4,0,none⟩) (1 + n1) cap4) ([cn] ++ cnd)):=by
  have hl2:CwI w (w1.alloc (.cells #[.string s1] 9)) p 32 [.string s1,.slice (some ⟨b,off,none⟩) n1 k1,.string s3,.int .i64 cm,.int .i64 cx,.int .i64 ckd,.slice a2 n2 k2,.slice a3 n3 k3] (.slice (some ⟨w1.heap.size,0,none⟩) 1 1) [cn]:=⟨HW.out.1.trans kL,by rw [HP.out]; exact Nat.le_refl _,HW.out.2.kept kL,by rw [← HE.out.1]; exact hLo⟩
  refine hl2.add (news:=cnd) (Kept.refl _) ?_ (by rw [List.length_singleton,HLN.out.1]) hg4
  rw [HE.out.1] at own4
  exact own4
 have HLW:=hid' (show ([cn] ++ cnd).length≤40 by rw [List.length_append,List.length_singleton,← HLN.out.1]; omega)
 have hl5:([cn] ++ cnd).length = 1 + n1:=by rw [List.length_append,List.length_singleton,HLN.out.1]
 obtain ⟨wk,hwk⟩:∃ l,l = [cn] ++ cnd:=⟨_,rfl⟩
 rw [← hwk] at HI HLW hl5 HRR
 clear hwk
 rw [← hl5] at HI ⊢
 clear own4 hg4 hgg hLo kL hsrc HI0 f0 f1 f2 f3 f4 f5 f6 f7 g0 g1 g2 g3 g4 g5 g6 g7 hl5
 have kV:=(Kept.refl W4).alloc (.cells #[.int .i64 ckd,.slice a2 n2 k2,.slice a3 n3 k3] 30)
 have hV:=RowL.alloc 30 W4 [.int .i64 ckd,.slice a2 n2 k2,.slice a3 n3 k3]
 have f0:=HI.out.row.cell 0 (.string s1)
 have f1:=HI.out.row.cell 1 (.slice (some ⟨b,off,none⟩) n1 k1)
 have f2:=HI.out.row.cell 2 (.string s3)
 have f3:=HI.out.row.cell 3 (.int .i64 cm)
 have f4:=HI.out.row.cell 4 (.int .i64 cx)
 have f5:=HI.out.row.cell 5 (.int .i64 ckd)
 have f6:=HI.out.row.cell 6 (.slice a2 n2 k2)
 have f7:=HI.out.row.cell 7 (.slice a3 n3 k3)
 have g0:=(HI.out.row.kept kV).cell 0 (.string s1)
 have g1:=(HI.out.row.kept kV).cell 1 (.slice (some ⟨b,off,none⟩) n1 k1)
 have g2:=(HI.out.row.kept kV).cell 2 (.string s3)
 have g3:=(HI.out.row.kept kV).cell 3 (.int .i64 cm)
 have g4:=(HI.out.row.kept kV).cell 4 (.int .i64 cx)
 have g5:=(HI.out.row.kept kV).cell 5 (.int .i64 ckd)
 have g6:=(HI.out.row.kept kV).cell 6 (.slice a2 n2 k2)
 have g7:=(HI.out.row.kept kV).cell 7 (.slice a3 n3 k3)
 have HI:=hid' (HI.out.kept kV)
 have HV:=hid' hV
 clear kV hV
 go_upto_region 15 with fail
 generalize W4.alloc (.cells #[.int .i64 ckd,.slice a2 n2 k2,.slice a3 n3 k3] 30) = W5 at HI HV g0 g1 g2 g3 g4 g5 g6 g7 ⊢
 have sS:=hid' (fun (V:World) (K:RowL 32 V p [.string s1,.slice (some ⟨b,off,none⟩) n1 k1,.string s3,.int .i64 cm,.int .i64 cx,.int .i64 ckd,.slice a2 n2 k2,.slice a3 n3 k3]) => And.intro (K.cell 2 (.string s3)) (And.intro (K.cell 3 (.int .i64 cm)) (K.cell 4 (.int .i64 cx))))
 have KT:Kept W5 W5.drew:=(Kept.refl _).drew
 refine wp_region_held_drew (S:=fun w' => w'.cell? ⟨p,2,none⟩ = some (.string s3)∧w'.cell? ⟨p,3,none⟩ = some (.int .i64 cm)∧w'.cell? ⟨p,4,none⟩ = some (.int .i64 cx)) (by kernel_rfl) (sS.out _ (HI.out.row.kept KT)) (fun hHeld => ?_)
 have HI:=hid' (HI.out.kept KT)
 generalize W5.drew = Wd at HI hHeld ⊢
 clear KT f0 f1 f2 f3 f4 f5 f6 f7 g0 g1 g2 g3 g4 g5 g6 g7 HV
 refine tk 0 hHeld ?_
 refine tk 1 hHeld ?_
 refine tk 2 hHeld ?_
 refine tk 3 hHeld ?_
 refine tk 4 hHeld ?_
 refine rdy 5 fun K hK => ?_
 go_simp
 refine (rtx7_any cm cx _).mono ?_
 rintro e w6 ⟨hk6,rfl⟩
 obtain ⟨tv,htv⟩:∃ t,t = bs (tx (cm,cx)):=⟨_,rfl⟩
 rw [← htv]
 have Htv:=hid' htv
 have HI:=hid' (HI.out.kept hk6)
 refine hK.out _ _ (sS.out _ HI.out.row) (fun hHeld => ?_)
 clear hK K hk6 htv
 refine rdy 6 fun K hK => ?_
 go_simp
 have KA:=(Kept.refl w6).alloc (.cells #[.string s3,.string tv] 9)
 refine hK.out _ _ (sS.out _ (HI.out.row.kept KA)) (fun hHeld => ?_)
 clear hK K
 refine rdy 7 fun K hK => ?_
 refine wp_append_lies _ (.tmp 39) (.tmp 45) 22 rfl (w.heap.size + 1) 9 i0 (.string ByteArray.empty) 1 16 X.und_strs hi hz0 hz1 hz2 rfl (by decide) _ wk.length (strs wk) rfl (by exact (HI.out.kept KA).own) ⟨w6.heap.size,0,none⟩ 2 2 [.string s3,.string tv] rfl rfl (cell_pair w6 _ _ _) (fun u hu => by simp at hu; rcases hu with rfl | rfl <;> rfl) (by omega) (by have:=HLW.out; unfold maxLen; omega) (by have:=HLW.out; omega) (by have:=HB.out; have:=HI.out.kp.size; have:=HI.out.row.lt; have:=HI.out.le; have:=HP.out; simp; omega) _ rfl ?_
 intro q5 cap5 W6 own5 hg5 hgg5 _
 have HI:=hid' (HI.out.add (news:=[s3.data.toList,tv.data.toList]) KA own5 rfl hg5)
 refine hK.out _ _ (sS.out _ HI.out.row) (fun hHeld => ?_)
 clear hK K own5 hg5 hgg5 KA
 refine rdy 8 fun K hK => ?_
 go_simp
 refine hK.out _ _ hHeld (fun hHeld => ?_)
 clear hK K
 refine rdy 9 fun K hK => ?_
 go_simp
 refine hK.out _ _ hHeld (fun hHeld => ?_)
 clear hK K
 refine dn ?_
 go_wp2_with fail
 go_ret2
 refine ⟨HI.out.kp,_,rfl,?_⟩
 rw [HRR.out]
 have:=own_mono HI.out.own (Nat.le_succ w.heap.size)
 rw [HE.out.2,Htv.out,bs_list] at this
 exact this
set_option maxRecDepth 100000 in
set_option maxHeartbeats 8000000 in
theorem rwr_l104 (a1 a2 a3:Option Addr) (n1 k1 n2 k2 n3 k3:Nat) (c:Cd) (w:World) (hc:CdR w a1 n1 k1 a2 n2 k2 a3 n3 k3 c) (hR:RightC c) (hq:c.name.getD 0 0 = 104) :
  Calls Tryz.prog 23 #[cdV c (.slice a1 n1 k1) (.slice a2 n2 k2) (.slice a3 n3 k3)] w fun e w' => Kept w w'∧∃ u,e = .returned (.tuple #[u,.int .i64 0])∧OwnS w.heap.size w' u (cwords c):=by
 have hln:=right_lens hR
 have HLN:=hid' (show n1 = c.nodes.length∧n2 = c.vals.length∧n3 = c.steps.length from ⟨rs_len hc.nodes,hc.vals.len,hc.steps.len⟩)
 have hri:=fun V (K:Kept w V) => right_any a1 a2 a3 n1 k1 n2 k2 n3 k3 c V (hc.kept K) hln.2.2.2.1 hln.2.2.2.2.1 hln.2.2.2.2.2 ⟨by have:=HLN.out; have:=hln.1; omega,by have:=HLN.out; have:=hln.2.1; omega,by have:=HLN.out; have:=hln.2.2.1; omega⟩
 rw [(right_iff c).2 hR] at hri
 have hcw:cwords c = ([c.name] ++ c.nodes) ++ [c.ref,tx c.val]:=by
  unfold cwords
  rw [hq,if_pos (by decide),if_pos (by decide),if_neg (by decide)]
  simp
 obtain ⟨R,hRR⟩:∃ l,l = cwords c:=⟨_,rfl⟩
 rw [← hRR]
 have HRR:=hid' (hRR.trans hcw)
 clear hRR
 have hn1:0 < n1∧n1≤8:=by
  have h1:=hR.cnt
  have h2:=HLN.out.1
  have h3:=hln.1
  rw [hq] at h1
  unfold nodesN at h1
  have:=of_decide_eq_true h1
  omega
 have HWV:=hid' (hR.wav)
 rw [hq] at HWV
 have hh:=dev_len hR.dev
 have HC:=hid' hc
 clear hR hc hcw hln
 obtain ⟨cn,cnd,cr,⟨cm,cx⟩,ckd,cvs,css⟩:=c
 unfold cdV at hri ⊢
 simp only at hri hh hq HWV HLN HRR ⊢
 obtain ⟨s1,hs1⟩:∃ s,s = bs cn:=⟨_,rfl⟩
 obtain ⟨s3,hs3⟩:∃ s,s = bs cr:=⟨_,rfl⟩
 rw [← hs1,← hs3] at hri ⊢
 have hsz:0 < s1.size:=by rw [hs1,bs_size]; exact hh
 have hszi:(0:Int) < (s1.size:Int):=by omega
 have eh:s1[0].toNat = 104:=by rw [head_of hsz hs1,hq]; rfl
 have HE:=hid' (show s1.data.toList = cn∧s3.data.toList = cr by rw [hs1,hs3]; exact ⟨bs_list _,bs_list _⟩)
 obtain ⟨i0,hi,hz0,hz1,hz2⟩:=info_parts X.info_str
 clear hs1 hs3 hh hq
 go_enter Tryz.func23,Tryz.ntmps23
 go_wp2_with fail
 have hK:=(Kept.refl w).alloc (.cells #[.string s1,.slice a1 n1 k1,.string s3,.int .i64 cm,.int .i64 cx,.int .i64 ckd,.slice a2 n2 k2,.slice a3 n3 k3] 32)
 have hA:=RowL.alloc 32 w [.string s1,.slice a1 n1 k1,.string s3,.int .i64 cm,.int .i64 cx,.int .i64 ckd,.slice a2 n2 k2,.slice a3 n3 k3]
 generalize w.alloc (.cells #[.string s1,.slice a1 n1 k1,.string s3,.int .i64 cm,.int .i64 cx,.int .i64 ckd,.slice a2 n2 k2,.slice a3 n3 k3] 32) = W0 at hK hA ⊢
 obtain ⟨p,hp⟩:∃ q,q = w.heap.size:=⟨_,rfl⟩
 rw [← hp] at hA ⊢
 have HP:=hid' hp
 clear hp
 refine (hri _ hK).mono ?_
 rintro e w1 ⟨hk1,rfl⟩
 have HW:=hid' (And.intro (hK.trans hk1) (hA.kept hk1))
 have kL:=(Kept.refl w1).alloc (.cells #[.string s1] 9)
 have f0:=HW.out.2.cell 0 (.string s1)
 have f1:=HW.out.2.cell 1 (.slice a1 n1 k1)
 have f2:=HW.out.2.cell 2 (.string s3)
 have f3:=HW.out.2.cell 3 (.int .i64 cm)
 have f4:=HW.out.2.cell 4 (.int .i64 cx)
 have f5:=HW.out.2.cell 5 (.int .i64 ckd)
 have f6:=HW.out.2.cell 6 (.slice a2 n2 k2)
 have f7:=HW.out.2.cell 7 (.slice a3 n3 k3)
 have g0:=(HW.out.2.kept kL).cell 0 (.string s1)
 have g1:=(HW.out.2.kept kL).cell 1 (.slice a1 n1 k1)
 have g2:=(HW.out.2.kept kL).cell 2 (.string s3)
 have g3:=(HW.out.2.kept kL).cell 3 (.int .i64 cm)
 have g4:=(HW.out.2.kept kL).cell 4 (.int .i64 cx)
 have g5:=(HW.out.2.kept kL).cell 5 (.int .i64 ckd)
 have g6:=(HW.out.2.kept kL).cell 6 (.slice a2 n2 k2)
 have g7:=(HW.out.2.kept kL).cell 7 (.slice a3 n3 k3)
 have HB:=hid' (show w.heap.size + 1≤w1.heap.size by have:=HW.out.2.lt; have:=HP.out; omega)
 have hLo:=lit_own w1 (w.heap.size + 1) s1 HB.out
 obtain ⟨b,off,rfl,hsrc⟩:∃ b off,a1 = some ⟨b,off,none⟩∧∀ j u,(strs cnd)[j]? = some u→(w1.alloc (.cells #[.string s1] 9)).cell? ((⟨b,off,none⟩:Addr).add j) = some u:=by
  obtain ⟨ad,e,h⟩:=strs_src (HC.out.nodes.kept (HW.out.1.trans kL)) hn1.1
  obtain ⟨b,off,spot⟩:=ad
  have hsp:spot = none:=by
   have h0:=h 0 _ (X.strs_at cnd 0 (by have h9:=hn1.1; rw [HLN.out.1] at h9; exact h9))
   simp [Addr.add] at h0
   exact World.cell?_spot h0
  subst hsp
  exact ⟨b,off,e,h⟩
 clear hK hA hk1 hri
 go_wp2_with (at_builtin; refine wpList_append_lies _ rfl (.tmp 14) (.tmp 16) 22 rfl (w.heap.size + 1) 9 i0 (.string ByteArray.empty) 1 16 X.und_strs hi hz0 hz1 hz2 rfl (by decide) (.slice (some ⟨w1.heap.size,0,none⟩) 1 1) 1 (strs [s1.data.toList]) rfl (by exact hLo) ⟨b,off,none⟩ n1 k1 (strs cnd) rfl (by rw [X.strs_len,HLN.out.1]) hsrc (X.strs_one cnd) (by omega) (by unfold maxLen; omega) (by omega) (by have:=HB.out; simp; omega) _ rfl ?_)
 intro q4 cap4 W4 own4 hg4 hgg _
 have HI0:Hid (CwI w w1 p 32 [.string s1,.slice (some ⟨b,off,none⟩) n1 k1,.string s3,.int .i64 cm,.int .i64 cx,.int .i64 ckd,.slice a2 n2 k2,.slice a3 n3 k3] (.slice (some ⟨w1.heap.size,0,none⟩) 1 1) [])→True:=fun _ => trivial
 have HI:Hid (CwI w W4 p 32 [.string s1,.slice (some ⟨b,off,none⟩) n1 k1,.string s3,.int .i64 cm,.int .i64 cx,.int .i64 ckd,.slice a2 n2 k2,.slice a3 n3 k3] (.slice (some ⟨q4,0,none⟩) (1 + n1) cap4) ([cn] ++ cnd)):=by
  have hl2:CwI w (w1.alloc (.cells #[.string s1] 9)) p 32 [.string s1,.slice (some ⟨b,off,none⟩) n1 k1,.string s3,.int .i64 cm,.int .i64 cx,.int .i64 ckd,.slice a2 n2 k2,.slice a3 n3 k3] (.slice (some ⟨w1.heap.size,0,none⟩) 1 1) [cn]:=⟨HW.out.1.trans kL,by rw [HP.out]; exact Nat.le_refl _,HW.out.2.kept kL,by rw [← HE.out.1]; exact hLo⟩
  refine hl2.add (news:=cnd) (Kept.refl _) ?_ (by rw [List.length_singleton,HLN.out.1]) hg4
  rw [HE.out.1] at own4
  exact own4
 have HLW:=hid' (show ([cn] ++ cnd).length≤40 by rw [List.length_append,List.length_singleton,← HLN.out.1]; omega)
 have hl5:([cn] ++ cnd).length = 1 + n1:=by rw [List.length_append,List.length_singleton,HLN.out.1]
 obtain ⟨wk,hwk⟩:∃ l,l = [cn] ++ cnd:=⟨_,rfl⟩
 rw [← hwk] at HI HLW hl5 HRR
 clear hwk
 rw [← hl5] at HI ⊢
 clear own4 hg4 hgg hLo kL hsrc HI0 f0 f1 f2 f3 f4 f5 f6 f7 g0 g1 g2 g3 g4 g5 g6 g7 hl5
 have kV:=(Kept.refl W4).alloc (.cells #[.int .i64 ckd,.slice a2 n2 k2,.slice a3 n3 k3] 30)
 have hV:=RowL.alloc 30 W4 [.int .i64 ckd,.slice a2 n2 k2,.slice a3 n3 k3]
 have f0:=HI.out.row.cell 0 (.string s1)
 have f1:=HI.out.row.cell 1 (.slice (some ⟨b,off,none⟩) n1 k1)
 have f2:=HI.out.row.cell 2 (.string s3)
 have f3:=HI.out.row.cell 3 (.int .i64 cm)
 have f4:=HI.out.row.cell 4 (.int .i64 cx)
 have f5:=HI.out.row.cell 5 (.int .i64 ckd)
 have f6:=HI.out.row.cell 6 (.slice a2 n2 k2)
 have f7:=HI.out.row.cell 7 (.slice a3 n3 k3)
 have g0:=(HI.out.row.kept kV).cell 0 (.string s1)
 have g1:=(HI.out.row.kept kV).cell 1 (.slice (some ⟨b,off,none⟩) n1 k1)
 have g2:=(HI.out.row.kept kV).cell 2 (.string s3)
 have g3:=(HI.out.row.kept kV).cell 3 (.int .i64 cm)
 have g4:=(HI.out.row.kept kV).cell 4 (.int .i64 cx)
 have g5:=(HI.out.row.kept kV).cell 5 (.int .i64 ckd)
 have g6:=(HI.out.row.kept kV).cell 6 (.slice a2 n2 k2)
 have g7:=(HI.out.row.kept kV).cell 7 (.slice a3 n3 k3)
 have HI:=hid' (HI.out.kept kV)
 have HV:=hid' hV
 clear kV hV
 go_upto_region 15 with fail
 generalize W4.alloc (.cells #[.int .i64 ckd,.slice a2 n2 k2,.slice a3 n3 k3] 30) = W5 at HI HV g0 g1 g2 g3 g4 g5 g6 g7 ⊢
 have sS:=hid' (fun (V:World) (K:RowL 32 V p [.string s1,.slice (some ⟨b,off,none⟩) n1 k1,.string s3,.int .i64 cm,.int .i64 cx,.int .i64 ckd,.slice a2 n2 k2,.slice a3 n3 k3]) => And.intro (K.cell 2 (.string s3)) (And.intro (K.cell 3 (.int .i64 cm)) (K.cell 4 (.int .i64 cx))))
 have KT:Kept W5 W5.drew:=(Kept.refl _).drew
 refine wp_region_held_drew (S:=fun w' => w'.cell? ⟨p,2,none⟩ = some (.string s3)∧w'.cell? ⟨p,3,none⟩ = some (.int .i64 cm)∧w'.cell? ⟨p,4,none⟩ = some (.int .i64 cx)) (by kernel_rfl) (sS.out _ (HI.out.row.kept KT)) (fun hHeld => ?_)
 have HI:=hid' (HI.out.kept KT)
 generalize W5.drew = Wd at HI hHeld ⊢
 clear KT f0 f1 f2 f3 f4 f5 f6 f7 g0 g1 g2 g3 g4 g5 g6 g7 HV
 refine tk 0 hHeld ?_
 refine tk 1 hHeld ?_
 refine tk 2 hHeld ?_
 refine tk 3 hHeld ?_
 refine tk 4 hHeld ?_
 refine rdy 5 fun K hK => ?_
 go_simp
 refine (rtx7_any cm cx _).mono ?_
 rintro e w6 ⟨hk6,rfl⟩
 obtain ⟨tv,htv⟩:∃ t,t = bs (tx (cm,cx)):=⟨_,rfl⟩
 rw [← htv]
 have Htv:=hid' htv
 have HI:=hid' (HI.out.kept hk6)
 refine hK.out _ _ (sS.out _ HI.out.row) (fun hHeld => ?_)
 clear hK K hk6 htv
 refine rdy 6 fun K hK => ?_
 go_simp
 have KA:=(Kept.refl w6).alloc (.cells #[.string s3,.string tv] 9)
 refine hK.out _ _ (sS.out _ (HI.out.row.kept KA)) (fun hHeld => ?_)
 clear hK K
 refine rdy 7 fun K hK => ?_
 refine wp_append_lies _ (.tmp 39) (.tmp 45) 22 rfl (w.heap.size + 1) 9 i0 (.string ByteArray.empty) 1 16 X.und_strs hi hz0 hz1 hz2 rfl (by decide) _ wk.length (strs wk) rfl (by exact (HI.out.kept KA).own) ⟨w6.heap.size,0,none⟩ 2 2 [.string s3,.string tv] rfl rfl (cell_pair w6 _ _ _) (fun u hu => by simp at hu; rcases hu with rfl | rfl <;> rfl) (by omega) (by have:=HLW.out; unfold maxLen; omega) (by have:=HLW.out; omega) (by have:=HB.out; have:=HI.out.kp.size; have:=HI.out.row.lt; have:=HI.out.le; have:=HP.out; simp; omega) _ rfl ?_
 intro q5 cap5 W6 own5 hg5 hgg5 _
 have HI:=hid' (HI.out.add (news:=[s3.data.toList,tv.data.toList]) KA own5 rfl hg5)
 refine hK.out _ _ (sS.out _ HI.out.row) (fun hHeld => ?_)
 clear hK K own5 hg5 hgg5 KA
 refine rdy 8 fun K hK => ?_
 go_simp
 refine hK.out _ _ hHeld (fun hHeld => ?_)
 clear hK K
 refine rdy 9 fun K hK => ?_
 go_simp
 refine hK.out _ _ hHeld (fun hHeld => ?_)
 clear hK K
 refine dn ?_
 go_wp2_with fail
 go_ret2
 refine ⟨HI.out.kp,_,rfl,?_⟩
 rw [HRR.out]
 have:=own_mono HI.out.own (Nat.le_succ w.heap.size)
 rw [HE.out.2,Htv.out,bs_list] at this
 exact this
set_option maxRecDepth 100000 in
set_option maxHeartbeats 8000000 in
theorem rwr_l100 (a1 a2 a3:Option Addr) (n1 k1 n2 k2 n3 k3:Nat) (c:Cd) (w:World) (hc:CdR w a1 n1 k1 a2 n2 k2 a3 n3 k3 c) (hR:RightC c) (hq:c.name.getD 0 0 = 100) :
  Calls Tryz.prog 23 #[cdV c (.slice a1 n1 k1) (.slice a2 n2 k2) (.slice a3 n3 k3)] w fun e w' => Kept w w'∧∃ u,e = .returned (.tuple #[u,.int .i64 0])∧OwnS w.heap.size w' u (cwords c):=by
 have hln:=right_lens hR
 have HLN:=hid' (show n1 = c.nodes.length∧n2 = c.vals.length∧n3 = c.steps.length from ⟨rs_len hc.nodes,hc.vals.len,hc.steps.len⟩)
 have hri:=fun V (K:Kept w V) => right_any a1 a2 a3 n1 k1 n2 k2 n3 k3 c V (hc.kept K) hln.2.2.2.1 hln.2.2.2.2.1 hln.2.2.2.2.2 ⟨by have:=HLN.out; have:=hln.1; omega,by have:=HLN.out; have:=hln.2.1; omega,by have:=HLN.out; have:=hln.2.2.1; omega⟩
 rw [(right_iff c).2 hR] at hri
 have hcw:cwords c = ([c.name] ++ c.nodes) ++ [c.ref]:=by
  unfold cwords
  rw [hq,if_pos (by decide),if_neg (by decide),if_neg (by decide)]
  simp
 obtain ⟨R,hRR⟩:∃ l,l = cwords c:=⟨_,rfl⟩
 rw [← hRR]
 have HRR:=hid' (hRR.trans hcw)
 clear hRR
 have hn1:0 < n1∧n1≤8:=by
  have h1:=hR.cnt
  have h2:=HLN.out.1
  have h3:=hln.1
  rw [hq] at h1
  unfold nodesN at h1
  have:=of_decide_eq_true h1
  omega
 have HWV:=hid' (hR.wav)
 rw [hq] at HWV
 have hh:=dev_len hR.dev
 have HC:=hid' hc
 clear hR hc hcw hln
 obtain ⟨cn,cnd,cr,⟨cm,cx⟩,ckd,cvs,css⟩:=c
 unfold cdV at hri ⊢
 simp only at hri hh hq HWV HLN HRR ⊢
 obtain ⟨s1,hs1⟩:∃ s,s = bs cn:=⟨_,rfl⟩
 obtain ⟨s3,hs3⟩:∃ s,s = bs cr:=⟨_,rfl⟩
 rw [← hs1,← hs3] at hri ⊢
 have hsz:0 < s1.size:=by rw [hs1,bs_size]; exact hh
 have hszi:(0:Int) < (s1.size:Int):=by omega
 have eh:s1[0].toNat = 100:=by rw [head_of hsz hs1,hq]; rfl
 have HE:=hid' (show s1.data.toList = cn∧s3.data.toList = cr by rw [hs1,hs3]; exact ⟨bs_list _,bs_list _⟩)
 obtain ⟨i0,hi,hz0,hz1,hz2⟩:=info_parts X.info_str
 clear hs1 hs3 hh hq
 go_enter Tryz.func23,Tryz.ntmps23
 go_wp2_with fail
 have hK:=(Kept.refl w).alloc (.cells #[.string s1,.slice a1 n1 k1,.string s3,.int .i64 cm,.int .i64 cx,.int .i64 ckd,.slice a2 n2 k2,.slice a3 n3 k3] 32)
 have hA:=RowL.alloc 32 w [.string s1,.slice a1 n1 k1,.string s3,.int .i64 cm,.int .i64 cx,.int .i64 ckd,.slice a2 n2 k2,.slice a3 n3 k3]
 generalize w.alloc (.cells #[.string s1,.slice a1 n1 k1,.string s3,.int .i64 cm,.int .i64 cx,.int .i64 ckd,.slice a2 n2 k2,.slice a3 n3 k3] 32) = W0 at hK hA ⊢
 obtain ⟨p,hp⟩:∃ q,q = w.heap.size:=⟨_,rfl⟩
 rw [← hp] at hA ⊢
 have HP:=hid' hp
 clear hp
 refine (hri _ hK).mono ?_
 rintro e w1 ⟨hk1,rfl⟩
 have HW:=hid' (And.intro (hK.trans hk1) (hA.kept hk1))
 have kL:=(Kept.refl w1).alloc (.cells #[.string s1] 9)
 have f0:=HW.out.2.cell 0 (.string s1)
 have f1:=HW.out.2.cell 1 (.slice a1 n1 k1)
 have f2:=HW.out.2.cell 2 (.string s3)
 have f3:=HW.out.2.cell 3 (.int .i64 cm)
 have f4:=HW.out.2.cell 4 (.int .i64 cx)
 have f5:=HW.out.2.cell 5 (.int .i64 ckd)
 have f6:=HW.out.2.cell 6 (.slice a2 n2 k2)
 have f7:=HW.out.2.cell 7 (.slice a3 n3 k3)
 have g0:=(HW.out.2.kept kL).cell 0 (.string s1)
 have g1:=(HW.out.2.kept kL).cell 1 (.slice a1 n1 k1)
 have g2:=(HW.out.2.kept kL).cell 2 (.string s3)
 have g3:=(HW.out.2.kept kL).cell 3 (.int .i64 cm)
 have g4:=(HW.out.2.kept kL).cell 4 (.int .i64 cx)
 have g5:=(HW.out.2.kept kL).cell 5 (.int .i64 ckd)
 have g6:=(HW.out.2.kept kL).cell 6 (.slice a2 n2 k2)
 have g7:=(HW.out.2.kept kL).cell 7 (.slice a3 n3 k3)
 have HB:=hid' (show w.heap.size + 1≤w1.heap.size by have:=HW.out.2.lt; have:=HP.out; omega)
 have hLo:=lit_own w1 (w.heap.size + 1) s1 HB.out
 obtain ⟨b,off,rfl,hsrc⟩:∃ b off,a1 = some ⟨b,off,none⟩∧∀ j u,(strs cnd)[j]? = some u→(w1.alloc (.cells #[.string s1] 9)).cell? ((⟨b,off,none⟩:Addr).add j) = some u:=by
  obtain ⟨ad,e,h⟩:=strs_src (HC.out.nodes.kept (HW.out.1.trans kL)) hn1.1
  obtain ⟨b,off,spot⟩:=ad
  have hsp:spot = none:=by
   have h0:=h 0 _ (X.strs_at cnd 0 (by have h9:=hn1.1; rw [HLN.out.1] at h9; exact h9))
   simp [Addr.add] at h0
   exact World.cell?_spot h0
  subst hsp
  exact ⟨b,off,e,h⟩
 clear hK hA hk1 hri
 go_wp2_with (at_builtin; refine wpList_append_lies _ rfl (.tmp 14) (.tmp 16) 22 rfl (w.heap.size + 1) 9 i0 (.string ByteArray.empty) 1 16 X.und_strs hi hz0 hz1 hz2 rfl (by decide) (.slice (some ⟨w1.heap.size,0,none⟩) 1 1) 1 (strs [s1.data.toList]) rfl (by exact hLo) ⟨b,off,none⟩ n1 k1 (strs cnd) rfl (by rw [X.strs_len,HLN.out.1]) hsrc (X.strs_one cnd) (by omega) (by unfold maxLen; omega) (by omega) (by have:=HB.out; simp; omega) _ rfl ?_)
 intro q4 cap4 W4 own4 hg4 hgg _
 have HI0:Hid (CwI w w1 p 32 [.string s1,.slice (some ⟨b,off,none⟩) n1 k1,.string s3,.int .i64 cm,.int .i64 cx,.int .i64 ckd,.slice a2 n2 k2,.slice a3 n3 k3] (.slice (some ⟨w1.heap.size,0,none⟩) 1 1) [])→True:=fun _ => trivial
 have HI:Hid (CwI w W4 p 32 [.string s1,.slice (some ⟨b,off,none⟩) n1 k1,.string s3,.int .i64 cm,.int .i64 cx,.int .i64 ckd,.slice a2 n2 k2,.slice a3 n3 k3] (.slice (some ⟨q4,0,none⟩) (1 + n1) cap4) ([cn] ++ cnd)):=by
  have hl2:CwI w (w1.alloc (.cells #[.string s1] 9)) p 32 [.string s1,.slice (some ⟨b,off,none⟩) n1 k1,.string s3,.int .i64 cm,.int .i64 cx,.int .i64 ckd,.slice a2 n2 k2,.slice a3 n3 k3] (.slice (some ⟨w1.heap.size,0,none⟩) 1 1) [cn]:=⟨HW.out.1.trans kL,by rw [HP.out]; exact Nat.le_refl _,HW.out.2.kept kL,by rw [← HE.out.1]; exact hLo⟩
  refine hl2.add (news:=cnd) (Kept.refl _) ?_ (by rw [List.length_singleton,HLN.out.1]) hg4
  rw [HE.out.1] at own4
  exact own4
 have HLW:=hid' (show ([cn] ++ cnd).length≤40 by rw [List.length_append,List.length_singleton,← HLN.out.1]; omega)
 have hl5:([cn] ++ cnd).length = 1 + n1:=by rw [List.length_append,List.length_singleton,HLN.out.1]
 obtain ⟨wk,hwk⟩:∃ l,l = [cn] ++ cnd:=⟨_,rfl⟩
 rw [← hwk] at HI HLW hl5 HRR
 clear hwk
 rw [← hl5] at HI ⊢
 clear own4 hg4 hgg hLo kL hsrc HI0 f0 f1 f2 f3 f4 f5 f6 f7 g0 g1 g2 g3 g4 g5 g6 g7 hl5
 have kV:=(Kept.refl W4).alloc (.cells #[.int .i64 ckd,.slice a2 n2 k2,.slice a3 n3 k3] 30)
 have hV:=RowL.alloc 30 W4 [.int .i64 ckd,.slice a2 n2 k2,.slice a3 n3 k3]
 have f0:=HI.out.row.cell 0 (.string s1)
 have f1:=HI.out.row.cell 1 (.slice (some ⟨b,off,none⟩) n1 k1)
 have f2:=HI.out.row.cell 2 (.string s3)
 have f3:=HI.out.row.cell 3 (.int .i64 cm)
 have f4:=HI.out.row.cell 4 (.int .i64 cx)
 have f5:=HI.out.row.cell 5 (.int .i64 ckd)
 have f6:=HI.out.row.cell 6 (.slice a2 n2 k2)
 have f7:=HI.out.row.cell 7 (.slice a3 n3 k3)
 have g0:=(HI.out.row.kept kV).cell 0 (.string s1)
 have g1:=(HI.out.row.kept kV).cell 1 (.slice (some ⟨b,off,none⟩) n1 k1)
 have g2:=(HI.out.row.kept kV).cell 2 (.string s3)
 have g3:=(HI.out.row.kept kV).cell 3 (.int .i64 cm)
 have g4:=(HI.out.row.kept kV).cell 4 (.int .i64 cx)
 have g5:=(HI.out.row.kept kV).cell 5 (.int .i64 ckd)
 have g6:=(HI.out.row.kept kV).cell 6 (.slice a2 n2 k2)
 have g7:=(HI.out.row.kept kV).cell 7 (.slice a3 n3 k3)
 have HI:=hid' (HI.out.kept kV)
 have HV:=hid' hV
 clear kV hV
 go_upto_region 19 with fail
 generalize W4.alloc (.cells #[.int .i64 ckd,.slice a2 n2 k2,.slice a3 n3 k3] 30) = W5 at HI HV g0 g1 g2 g3 g4 g5 g6 g7 ⊢
 clear f0 f1 f2 f3 f4 f5 f6 f7 HV
 have KA:=(Kept.refl W5).alloc (.cells #[.string s3] 9)
 go_wp2_with (at_builtin; refine wpList_append_lies _ rfl (.tmp 51) (.tmp 54) 22 rfl (w.heap.size + 1) 9 i0 (.string ByteArray.empty) 1 16 X.und_strs hi hz0 hz1 hz2 rfl (by decide) _ wk.length (strs wk) rfl (by exact (HI.out.kept KA).own) ⟨W5.heap.size,0,none⟩ 1 1 [.string s3] rfl rfl (X.cell_new W5 _ _) (fun u hu => by simp at hu; subst hu; rfl) (by omega) (by have:=HLW.out; unfold maxLen; omega) (by have:=HLW.out; omega) (by have:=HB.out; have:=HI.out.kp.size; have:=HI.out.row.lt; have:=HI.out.le; simp; omega) _ rfl ?_)
 intro q5 cap5 W6 own5 hg5 hgg5 _
 have HI:=hid' (HI.out.add (news:=[s3.data.toList]) KA own5 rfl hg5)
 clear own5 hg5 hgg5 KA g0 g1 g2 g3 g4 g5 g6 g7
 go_wp2_with fail
 go_ret2
 refine ⟨HI.out.kp,_,rfl,?_⟩
 rw [HRR.out]
 have:=own_mono HI.out.own (Nat.le_succ w.heap.size)
 rw [HE.out.2] at this
 exact this
set_option maxRecDepth 100000 in
set_option maxHeartbeats 8000000 in
theorem rwr_l115 (a1 a2 a3:Option Addr) (n1 k1 n2 k2 n3 k3:Nat) (c:Cd) (w:World) (hc:CdR w a1 n1 k1 a2 n2 k2 a3 n3 k3 c) (hR:RightC c) (hq:c.name.getD 0 0 = 115) :
  Calls Tryz.prog 23 #[cdV c (.slice a1 n1 k1) (.slice a2 n2 k2) (.slice a3 n3 k3)] w fun e w' => Kept w w'∧∃ u,e = .returned (.tuple #[u,.int .i64 0])∧OwnS w.heap.size w' u (cwords c):=by
 have hln:=right_lens hR
 have HLN:=hid' (show n1 = c.nodes.length∧n2 = c.vals.length∧n3 = c.steps.length from ⟨rs_len hc.nodes,hc.vals.len,hc.steps.len⟩)
 have hri:=fun V (K:Kept w V) => right_any a1 a2 a3 n1 k1 n2 k2 n3 k3 c V (hc.kept K) hln.2.2.2.1 hln.2.2.2.2.1 hln.2.2.2.2.2 ⟨by have:=HLN.out; have:=hln.1; omega,by have:=HLN.out; have:=hln.2.1; omega,by have:=HLN.out; have:=hln.2.2.1; omega⟩
 rw [(right_iff c).2 hR] at hri
 have hcw:cwords c = ([c.name] ++ c.nodes) ++ [c.ref]:=by
  unfold cwords
  rw [hq,if_pos (by decide),if_neg (by decide),if_neg (by decide)]
  simp
 obtain ⟨R,hRR⟩:∃ l,l = cwords c:=⟨_,rfl⟩
 rw [← hRR]
 have HRR:=hid' (hRR.trans hcw)
 clear hRR
 have hn1:0 < n1∧n1≤8:=by
  have h1:=hR.cnt
  have h2:=HLN.out.1
  have h3:=hln.1
  rw [hq] at h1
  unfold nodesN at h1
  have:=of_decide_eq_true h1
  omega
 have HWV:=hid' (hR.wav)
 rw [hq] at HWV
 have hh:=dev_len hR.dev
 have HC:=hid' hc
 clear hR hc hcw hln
 obtain ⟨cn,cnd,cr,⟨cm,cx⟩,ckd,cvs,css⟩:=c
 unfold cdV at hri ⊢
 simp only at hri hh hq HWV HLN HRR ⊢
 obtain ⟨s1,hs1⟩:∃ s,s = bs cn:=⟨_,rfl⟩
 obtain ⟨s3,hs3⟩:∃ s,s = bs cr:=⟨_,rfl⟩
 rw [← hs1,← hs3] at hri ⊢
 have hsz:0 < s1.size:=by rw [hs1,bs_size]; exact hh
 have hszi:(0:Int) < (s1.size:Int):=by omega
 have eh:s1[0].toNat = 115:=by rw [head_of hsz hs1,hq]; rfl
 have HE:=hid' (show s1.data.toList = cn∧s3.data.toList = cr by rw [hs1,hs3]; exact ⟨bs_list _,bs_list _⟩)
 obtain ⟨i0,hi,hz0,hz1,hz2⟩:=info_parts X.info_str
 clear hs1 hs3 hh hq
 go_enter Tryz.func23,Tryz.ntmps23
 go_wp2_with fail
 have hK:=(Kept.refl w).alloc (.cells #[.string s1,.slice a1 n1 k1,.string s3,.int .i64 cm,.int .i64 cx,.int .i64 ckd,.slice a2 n2 k2,.slice a3 n3 k3] 32)
 have hA:=RowL.alloc 32 w [.string s1,.slice a1 n1 k1,.string s3,.int .i64 cm,.int .i64 cx,.int .i64 ckd,.slice a2 n2 k2,.slice a3 n3 k3]
 generalize w.alloc (.cells #[.string s1,.slice a1 n1 k1,.string s3,.int .i64 cm,.int .i64 cx,.int .i64 ckd,.slice a2 n2 k2,.slice a3 n3 k3] 32) = W0 at hK hA ⊢
 obtain ⟨p,hp⟩:∃ q,q = w.heap.size:=⟨_,rfl⟩
 rw [← hp] at hA ⊢
 have HP:=hid' hp
 clear hp
 refine (hri _ hK).mono ?_
 rintro e w1 ⟨hk1,rfl⟩
 have HW:=hid' (And.intro (hK.trans hk1) (hA.kept hk1))
 have kL:=(Kept.refl w1).alloc (.cells #[.string s1] 9)
 have f0:=HW.out.2.cell 0 (.string s1)
 have f1:=HW.out.2.cell 1 (.slice a1 n1 k1)
 have f2:=HW.out.2.cell 2 (.string s3)
 have f3:=HW.out.2.cell 3 (.int .i64 cm)
 have f4:=HW.out.2.cell 4 (.int .i64 cx)
 have f5:=HW.out.2.cell 5 (.int .i64 ckd)
 have f6:=HW.out.2.cell 6 (.slice a2 n2 k2)
 have f7:=HW.out.2.cell 7 (.slice a3 n3 k3)
 have g0:=(HW.out.2.kept kL).cell 0 (.string s1)
 have g1:=(HW.out.2.kept kL).cell 1 (.slice a1 n1 k1)
 have g2:=(HW.out.2.kept kL).cell 2 (.string s3)
 have g3:=(HW.out.2.kept kL).cell 3 (.int .i64 cm)
 have g4:=(HW.out.2.kept kL).cell 4 (.int .i64 cx)
 have g5:=(HW.out.2.kept kL).cell 5 (.int .i64 ckd)
 have g6:=(HW.out.2.kept kL).cell 6 (.slice a2 n2 k2)
 have g7:=(HW.out.2.kept kL).cell 7 (.slice a3 n3 k3)
 have HB:=hid' (show w.heap.size + 1≤w1.heap.size by have:=HW.out.2.lt; have:=HP.out; omega)
 have hLo:=lit_own w1 (w.heap.size + 1) s1 HB.out
 obtain ⟨b,off,rfl,hsrc⟩:∃ b off,a1 = some ⟨b,off,none⟩∧∀ j u,(strs cnd)[j]? = some u→(w1.alloc (.cells #[.string s1] 9)).cell? ((⟨b,off,none⟩:Addr).add j) = some u:=by
  obtain ⟨ad,e,h⟩:=strs_src (HC.out.nodes.kept (HW.out.1.trans kL)) hn1.1
  obtain ⟨b,off,spot⟩:=ad
  have hsp:spot = none:=by
   have h0:=h 0 _ (X.strs_at cnd 0 (by have h9:=hn1.1; rw [HLN.out.1] at h9; exact h9))
   simp [Addr.add] at h0
   exact World.cell?_spot h0
  subst hsp
  exact ⟨b,off,e,h⟩
 clear hK hA hk1 hri
 go_wp2_with (at_builtin; refine wpList_append_lies _ rfl (.tmp 14) (.tmp 16) 22 rfl (w.heap.size + 1) 9 i0 (.string ByteArray.empty) 1 16 X.und_strs hi hz0 hz1 hz2 rfl (by decide) (.slice (some ⟨w1.heap.size,0,none⟩) 1 1) 1 (strs [s1.data.toList]) rfl (by exact hLo) ⟨b,off,none⟩ n1 k1 (strs cnd) rfl (by rw [X.strs_len,HLN.out.1]) hsrc (X.strs_one cnd) (by omega) (by unfold maxLen; omega) (by omega) (by have:=HB.out; simp; omega) _ rfl ?_)
 intro q4 cap4 W4 own4 hg4 hgg _
 have HI0:Hid (CwI w w1 p 32 [.string s1,.slice (some ⟨b,off,none⟩) n1 k1,.string s3,.int .i64 cm,.int .i64 cx,.int .i64 ckd,.slice a2 n2 k2,.slice a3 n3 k3] (.slice (some ⟨w1.heap.size,0,none⟩) 1 1) [])→True:=fun _ => trivial
 have HI:Hid (CwI w W4 p 32 [.string s1,.slice (some ⟨b,off,none⟩) n1 k1,.string s3,.int .i64 cm,.int .i64 cx,.int .i64 ckd,.slice a2 n2 k2,.slice a3 n3 k3] (.slice (some ⟨q4,0,none⟩) (1 + n1) cap4) ([cn] ++ cnd)):=by
  have hl2:CwI w (w1.alloc (.cells #[.string s1] 9)) p 32 [.string s1,.slice (some ⟨b,off,none⟩) n1 k1,.string s3,.int .i64 cm,.int .i64 cx,.int .i64 ckd,.slice a2 n2 k2,.slice a3 n3 k3] (.slice (some ⟨w1.heap.size,0,none⟩) 1 1) [cn]:=⟨HW.out.1.trans kL,by rw [HP.out]; exact Nat.le_refl _,HW.out.2.kept kL,by rw [← HE.out.1]; exact hLo⟩
  refine hl2.add (news:=cnd) (Kept.refl _) ?_ (by rw [List.length_singleton,HLN.out.1]) hg4
  rw [HE.out.1] at own4
  exact own4
 have HLW:=hid' (show ([cn] ++ cnd).length≤40 by rw [List.length_append,List.length_singleton,← HLN.out.1]; omega)
 have hl5:([cn] ++ cnd).length = 1 + n1:=by rw [List.length_append,List.length_singleton,HLN.out.1]
 obtain ⟨wk,hwk⟩:∃ l,l = [cn] ++ cnd:=⟨_,rfl⟩
 rw [← hwk] at HI HLW hl5 HRR
 clear hwk
 rw [← hl5] at HI ⊢
 clear own4 hg4 hgg hLo kL hsrc HI0 f0 f1 f2 f3 f4 f5 f6 f7 g0 g1 g2 g3 g4 g5 g6 g7 hl5
 have kV:=(Kept.refl W4).alloc (.cells #[.int .i64 ckd,.slice a2 n2 k2,.slice a3 n3 k3] 30)
 have hV:=RowL.alloc 30 W4 [.int .i64 ckd,.slice a2 n2 k2,.slice a3 n3 k3]
 have f0:=HI.out.row.cell 0 (.string s1)
 have f1:=HI.out.row.cell 1 (.slice (some ⟨b,off,none⟩) n1 k1)
 have f2:=HI.out.row.cell 2 (.string s3)
 have f3:=HI.out.row.cell 3 (.int .i64 cm)
 have f4:=HI.out.row.cell 4 (.int .i64 cx)
 have f5:=HI.out.row.cell 5 (.int .i64 ckd)
 have f6:=HI.out.row.cell 6 (.slice a2 n2 k2)
 have f7:=HI.out.row.cell 7 (.slice a3 n3 k3)
 have g0:=(HI.out.row.kept kV).cell 0 (.string s1)
 have g1:=(HI.out.row.kept kV).cell 1 (.slice (some ⟨b,off,none⟩) n1 k1)
 have g2:=(HI.out.row.kept kV).cell 2 (.string s3)
 have g3:=(HI.out.row.kept kV).cell 3 (.int .i64 cm)
 have g4:=(HI.out.row.kept kV).cell 4 (.int .i64 cx)
 have g5:=(HI.out.row.kept kV).cell 5 (.int .i64 ckd)
 have g6:=(HI.out.row.kept kV).cell 6 (.slice a2 n2 k2)
 have g7:=(HI.out.row.kept kV).cell 7 (.slice a3 n3 k3)
 have HI:=hid' (HI.out.kept kV)
 have HV:=hid' hV
 clear kV hV
 go_upto_region 19 with fail
 generalize W4.alloc (.cells #[.int .i64 ckd,.slice a2 n2 k2,.slice a3 n3 k3] 30) = W5 at HI HV g0 g1 g2 g3 g4 g5 g6 g7 ⊢
 clear f0 f1 f2 f3 f4 f5 f6 f7 HV
 have KA:=(Kept.refl W5).alloc (.cells #[.string s3] 9)
 go_wp2_with (at_builtin; refine wpList_append_lies _ rfl (.tmp 51) (.tmp 54) 22 rfl (w.heap.size + 1) 9 i0 (.string ByteArray.empty) 1 16 X.und_strs hi hz0 hz1 hz2 rfl (by decide) _ wk.length (strs wk) rfl (by exact (HI.out.kept KA).own) ⟨W5.heap.size,0,none⟩ 1 1 [.string s3] rfl rfl (X.cell_new W5 _ _) (fun u hu => by simp at hu; subst hu; rfl) (by omega) (by have:=HLW.out; unfold maxLen; omega) (by have:=HLW.out; omega) (by have:=HB.out; have:=HI.out.kp.size; have:=HI.out.row.lt; have:=HI.out.le; simp; omega) _ rfl ?_)
 intro q5 cap5 W6 own5 hg5 hgg5 _
 have HI:=hid' (HI.out.add (news:=[s3.data.toList]) KA own5 rfl hg5)
 clear own5 hg5 hgg5 KA g0 g1 g2 g3 g4 g5 g6 g7
 go_wp2_with fail
 go_ret2
 refine ⟨HI.out.kp,_,rfl,?_⟩
 rw [HRR.out]
 have:=own_mono HI.out.own (Nat.le_succ w.heap.size)
 rw [HE.out.2] at this
 exact this
set_option maxRecDepth 100000 in
set_option maxHeartbeats 8000000 in
theorem rwr_l120 (a1 a2 a3:Option Addr) (n1 k1 n2 k2 n3 k3:Nat) (c:Cd) (w:World) (hc:CdR w a1 n1 k1 a2 n2 k2 a3 n3 k3 c) (hR:RightC c) (hq:c.name.getD 0 0 = 120) :
  Calls Tryz.prog 23 #[cdV c (.slice a1 n1 k1) (.slice a2 n2 k2) (.slice a3 n3 k3)] w fun e w' => Kept w w'∧∃ u,e = .returned (.tuple #[u,.int .i64 0])∧OwnS w.heap.size w' u (cwords c):=by
 have hln:=right_lens hR
 have HLN:=hid' (show n1 = c.nodes.length∧n2 = c.vals.length∧n3 = c.steps.length from ⟨rs_len hc.nodes,hc.vals.len,hc.steps.len⟩)
 have hri:=fun V (K:Kept w V) => right_any a1 a2 a3 n1 k1 n2 k2 n3 k3 c V (hc.kept K) hln.2.2.2.1 hln.2.2.2.2.1 hln.2.2.2.2.2 ⟨by have:=HLN.out; have:=hln.1; omega,by have:=HLN.out; have:=hln.2.1; omega,by have:=HLN.out; have:=hln.2.2.1; omega⟩
 rw [(right_iff c).2 hR] at hri
 have hcw:cwords c = ([c.name] ++ c.nodes) ++ [c.ref]:=by
  unfold cwords
  rw [hq,if_pos (by decide),if_neg (by decide),if_neg (by decide)]
  simp
 obtain ⟨R,hRR⟩:∃ l,l = cwords c:=⟨_,rfl⟩
 rw [← hRR]
 have HRR:=hid' (hRR.trans hcw)
 clear hRR
 have hn1:0 < n1∧n1≤8:=by
  have h1:=hR.cnt
  have h2:=HLN.out.1
  have h3:=hln.1
  rw [hq] at h1
  unfold nodesN at h1
  have:=of_decide_eq_true h1
  omega
 have HWV:=hid' (hR.wav)
 rw [hq] at HWV
 have hh:=dev_len hR.dev
 have HC:=hid' hc
 clear hR hc hcw hln
 obtain ⟨cn,cnd,cr,⟨cm,cx⟩,ckd,cvs,css⟩:=c
 unfold cdV at hri ⊢
 simp only at hri hh hq HWV HLN HRR ⊢
 obtain ⟨s1,hs1⟩:∃ s,s = bs cn:=⟨_,rfl⟩
 obtain ⟨s3,hs3⟩:∃ s,s = bs cr:=⟨_,rfl⟩
 rw [← hs1,← hs3] at hri ⊢
 have hsz:0 < s1.size:=by rw [hs1,bs_size]; exact hh
 have hszi:(0:Int) < (s1.size:Int):=by omega
 have eh:s1[0].toNat = 120:=by rw [head_of hsz hs1,hq]; rfl
 have HE:=hid' (show s1.data.toList = cn∧s3.data.toList = cr by rw [hs1,hs3]; exact ⟨bs_list _,bs_list _⟩)
 obtain ⟨i0,hi,hz0,hz1,hz2⟩:=info_parts X.info_str
 clear hs1 hs3 hh hq
 go_enter Tryz.func23,Tryz.ntmps23
 go_wp2_with fail
 have hK:=(Kept.refl w).alloc (.cells #[.string s1,.slice a1 n1 k1,.string s3,.int .i64 cm,.int .i64 cx,.int .i64 ckd,.slice a2 n2 k2,.slice a3 n3 k3] 32)
 have hA:=RowL.alloc 32 w [.string s1,.slice a1 n1 k1,.string s3,.int .i64 cm,.int .i64 cx,.int .i64 ckd,.slice a2 n2 k2,.slice a3 n3 k3]
 generalize w.alloc (.cells #[.string s1,.slice a1 n1 k1,.string s3,.int .i64 cm,.int .i64 cx,.int .i64 ckd,.slice a2 n2 k2,.slice a3 n3 k3] 32) = W0 at hK hA ⊢
 obtain ⟨p,hp⟩:∃ q,q = w.heap.size:=⟨_,rfl⟩
 rw [← hp] at hA ⊢
 have HP:=hid' hp
 clear hp
 refine (hri _ hK).mono ?_
 rintro e w1 ⟨hk1,rfl⟩
 have HW:=hid' (And.intro (hK.trans hk1) (hA.kept hk1))
 have kL:=(Kept.refl w1).alloc (.cells #[.string s1] 9)
 have f0:=HW.out.2.cell 0 (.string s1)
 have f1:=HW.out.2.cell 1 (.slice a1 n1 k1)
 have f2:=HW.out.2.cell 2 (.string s3)
 have f3:=HW.out.2.cell 3 (.int .i64 cm)
 have f4:=HW.out.2.cell 4 (.int .i64 cx)
 have f5:=HW.out.2.cell 5 (.int .i64 ckd)
 have f6:=HW.out.2.cell 6 (.slice a2 n2 k2)
 have f7:=HW.out.2.cell 7 (.slice a3 n3 k3)
 have g0:=(HW.out.2.kept kL).cell 0 (.string s1)
 have g1:=(HW.out.2.kept kL).cell 1 (.slice a1 n1 k1)
 have g2:=(HW.out.2.kept kL).cell 2 (.string s3)
 have g3:=(HW.out.2.kept kL).cell 3 (.int .i64 cm)
 have g4:=(HW.out.2.kept kL).cell 4 (.int .i64 cx)
 have g5:=(HW.out.2.kept kL).cell 5 (.int .i64 ckd)
 have g6:=(HW.out.2.kept kL).cell 6 (.slice a2 n2 k2)
 have g7:=(HW.out.2.kept kL).cell 7 (.slice a3 n3 k3)
 have HB:=hid' (show w.heap.size + 1≤w1.heap.size by have:=HW.out.2.lt; have:=HP.out; omega)
 have hLo:=lit_own w1 (w.heap.size + 1) s1 HB.out
 obtain ⟨b,off,rfl,hsrc⟩:∃ b off,a1 = some ⟨b,off,none⟩∧∀ j u,(strs cnd)[j]? = some u→(w1.alloc (.cells #[.string s1] 9)).cell? ((⟨b,off,none⟩:Addr).add j) = some u:=by
  obtain ⟨ad,e,h⟩:=strs_src (HC.out.nodes.kept (HW.out.1.trans kL)) hn1.1
  obtain ⟨b,off,spot⟩:=ad
  have hsp:spot = none:=by
   have h0:=h 0 _ (X.strs_at cnd 0 (by have h9:=hn1.1; rw [HLN.out.1] at h9; exact h9))
   simp [Addr.add] at h0
   exact World.cell?_spot h0
  subst hsp
  exact ⟨b,off,e,h⟩
 clear hK hA hk1 hri
 go_wp2_with (at_builtin; refine wpList_append_lies _ rfl (.tmp 14) (.tmp 16) 22 rfl (w.heap.size + 1) 9 i0 (.string ByteArray.empty) 1 16 X.und_strs hi hz0 hz1 hz2 rfl (by decide) (.slice (some ⟨w1.heap.size,0,none⟩) 1 1) 1 (strs [s1.data.toList]) rfl (by exact hLo) ⟨b,off,none⟩ n1 k1 (strs cnd) rfl (by rw [X.strs_len,HLN.out.1]) hsrc (X.strs_one cnd) (by omega) (by unfold maxLen; omega) (by omega) (by have:=HB.out; simp; omega) _ rfl ?_)
 intro q4 cap4 W4 own4 hg4 hgg _
 have HI0:Hid (CwI w w1 p 32 [.string s1,.slice (some ⟨b,off,none⟩) n1 k1,.string s3,.int .i64 cm,.int .i64 cx,.int .i64 ckd,.slice a2 n2 k2,.slice a3 n3 k3] (.slice (some ⟨w1.heap.size,0,none⟩) 1 1) [])→True:=fun _ => trivial
 have HI:Hid (CwI w W4 p 32 [.string s1,.slice (some ⟨b,off,none⟩) n1 k1,.string s3,.int .i64 cm,.int .i64 cx,.int .i64 ckd,.slice a2 n2 k2,.slice a3 n3 k3] (.slice (some ⟨q4,0,none⟩) (1 + n1) cap4) ([cn] ++ cnd)):=by
  have hl2:CwI w (w1.alloc (.cells #[.string s1] 9)) p 32 [.string s1,.slice (some ⟨b,off,none⟩) n1 k1,.string s3,.int .i64 cm,.int .i64 cx,.int .i64 ckd,.slice a2 n2 k2,.slice a3 n3 k3] (.slice (some ⟨w1.heap.size,0,none⟩) 1 1) [cn]:=⟨HW.out.1.trans kL,by rw [HP.out]; exact Nat.le_refl _,HW.out.2.kept kL,by rw [← HE.out.1]; exact hLo⟩
  refine hl2.add (news:=cnd) (Kept.refl _) ?_ (by rw [List.length_singleton,HLN.out.1]) hg4
  rw [HE.out.1] at own4
  exact own4
 have HLW:=hid' (show ([cn] ++ cnd).length≤40 by rw [List.length_append,List.length_singleton,← HLN.out.1]; omega)
 have hl5:([cn] ++ cnd).length = 1 + n1:=by rw [List.length_append,List.length_singleton,HLN.out.1]
 obtain ⟨wk,hwk⟩:∃ l,l = [cn] ++ cnd:=⟨_,rfl⟩
 rw [← hwk] at HI HLW hl5 HRR
 clear hwk
 rw [← hl5] at HI ⊢
 clear own4 hg4 hgg hLo kL hsrc HI0 f0 f1 f2 f3 f4 f5 f6 f7 g0 g1 g2 g3 g4 g5 g6 g7 hl5
 have kV:=(Kept.refl W4).alloc (.cells #[.int .i64 ckd,.slice a2 n2 k2,.slice a3 n3 k3] 30)
 have hV:=RowL.alloc 30 W4 [.int .i64 ckd,.slice a2 n2 k2,.slice a3 n3 k3]
 have f0:=HI.out.row.cell 0 (.string s1)
 have f1:=HI.out.row.cell 1 (.slice (some ⟨b,off,none⟩) n1 k1)
 have f2:=HI.out.row.cell 2 (.string s3)
 have f3:=HI.out.row.cell 3 (.int .i64 cm)
 have f4:=HI.out.row.cell 4 (.int .i64 cx)
 have f5:=HI.out.row.cell 5 (.int .i64 ckd)
 have f6:=HI.out.row.cell 6 (.slice a2 n2 k2)
 have f7:=HI.out.row.cell 7 (.slice a3 n3 k3)
 have g0:=(HI.out.row.kept kV).cell 0 (.string s1)
 have g1:=(HI.out.row.kept kV).cell 1 (.slice (some ⟨b,off,none⟩) n1 k1)
 have g2:=(HI.out.row.kept kV).cell 2 (.string s3)
 have g3:=(HI.out.row.kept kV).cell 3 (.int .i64 cm)
 have g4:=(HI.out.row.kept kV).cell 4 (.int .i64 cx)
 have g5:=(HI.out.row.kept kV).cell 5 (.int .i64 ckd)
 have g6:=(HI.out.row.kept kV).cell 6 (.slice a2 n2 k2)
 have g7:=(HI.out.row.kept kV).cell 7 (.slice a3 n3 k3)
 have HI:=hid' (HI.out.kept kV)
 have HV:=hid' hV
 clear kV hV
 go_upto_region 19 with fail
 generalize W4.alloc (.cells #[.int .i64 ckd,.slice a2 n2 k2,.slice a3 n3 k3] 30) = W5 at HI HV g0 g1 g2 g3 g4 g5 g6 g7 ⊢
 clear f0 f1 f2 f3 f4 f5 f6 f7 HV
 have KA:=(Kept.refl W5).alloc (.cells #[.string s3] 9)
 go_wp2_with (at_builtin; refine wpList_append_lies _ rfl (.tmp 51) (.tmp 54) 22 rfl (w.heap.size + 1) 9 i0 (.string ByteArray.empty) 1 16 X.und_strs hi hz0 hz1 hz2 rfl (by decide) _ wk.length (strs wk) rfl (by exact (HI.out.kept KA).own) ⟨W5.heap.size,0,none⟩ 1 1 [.string s3] rfl rfl (X.cell_new W5 _ _) (fun u hu => by simp at hu; subst hu; rfl) (by omega) (by have:=HLW.out; unfold maxLen; omega) (by have:=HLW.out; omega) (by have:=HB.out; have:=HI.out.kp.size; have:=HI.out.row.lt; have:=HI.out.le; simp; omega) _ rfl ?_)
 intro q5 cap5 W6 own5 hg5 hgg5 _
 have HI:=hid' (HI.out.add (news:=[s3.data.toList]) KA own5 rfl hg5)
 clear own5 hg5 hgg5 KA g0 g1 g2 g3 g4 g5 g6 g7
 go_wp2_with fail
 go_ret2
 refine ⟨HI.out.kp,_,rfl,?_⟩
 rw [HRR.out]
 have:=own_mono HI.out.own (Nat.le_succ w.heap.size)
 rw [HE.out.2] at this
 exact this
end V
end Go.Proofs.YtembglnonhlnkaaGreatDoor
