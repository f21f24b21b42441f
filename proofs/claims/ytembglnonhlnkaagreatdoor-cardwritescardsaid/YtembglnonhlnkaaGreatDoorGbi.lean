/- shuntref07.Write of right cards with a wave. shuntref07.Write. CardWrites' walk. -/
import Derived.Test.YtembglnonhlnkaaGreatDoorCk1
import Derived.Test.YtembglnonhlnkaaGreatDoorGbh
import Derived.Test.YtembglnonhlnkaaGreatDoorGbg
namespace Go.Proofs.YtembglnonhlnkaaGreatDoor
open Go.RowKit
namespace V
open Q (hid' parseOf Lett ErrV Tab okN textOf)
open X (bs OwnS RS strs bs_list bs_size)
theorem wv_add {w wr W3 W4:World} {p pw:Nat} {t:TypeId} {cs ds:List Value} {u:Value} {ws:List (List UInt8)} (h:CwI w wr p t cs u ws) (hv:RowL 30 wr pw ds) (KA:Kept wr W3) (hg:W3.grownBy W4 u.ownBlock):RowL 30 W4 pw ds :=
 (hv.kept KA).block (hg.block pw (hv.kept KA).lt (fun e => own_row (own_keptK' h.own KA) (hv.kept KA) (by decide) e.symm))
theorem cell_trip (w:World) (x y z:Value) (t:TypeId):∀ j u,([x,y,z]:List Value)[j]? = some u→(w.alloc (.cells #[x,y,z] t)).cell? ((⟨w.heap.size,0,none⟩:Addr).add j) = some u:=by
 intro j u hj
 match j,hj with
 | 0,hj => simp at hj; subst hj; simp [Addr.add]
 | 1,hj => simp at hj; subst hj; simp [Addr.add]
 | 2,hj => simp at hj; subst hj; simp [Addr.add]
theorem pwlW_take:∀ (vs:List (Int × Int)) (ss:List Int) (j:Nat),j < vs.length→j < ss.length→pwlW (vs.take (j + 1)) (ss.take (j + 1)) = pwlW (vs.take j) (ss.take j) ++ [Lib.itoa (ss.getD j 0),tx (vs.getD j (0,0))]
 | [],_,_,h,_ => by simp at h
 | _ :: _,[],_,_,h => by simp at h
 | v :: vs,s :: ss,0,_,_ => by simp [pwlW]
 | v :: vs,s :: ss,j + 1,h1,h2 => by
  have ih:=pwlW_take vs ss j (by simpa using h1) (by simpa using h2)
  simp only [List.take_succ_cons,pwlW,List.cons_append]
  rw [ih]
  rfl
set_option maxRecDepth 100000 in
set_option maxHeartbeats 8000000 in
theorem rwr_l118 (a1 a2 a3:Option Addr) (n1 k1 n2 k2 n3 k3:Nat) (c:Cd) (w:World) (hc:CdR w a1 n1 k1 a2 n2 k2 a3 n3 k3 c) (hR:RightC c) (hq:c.name.getD 0 0 = 118) :
  Calls Tryz.prog 23 #[cdV c (.slice a1 n1 k1) (.slice a2 n2 k2) (.slice a3 n3 k3)] w fun e w' => Kept w w'∧∃ u,e = .returned (.tuple #[u,.int .i64 0])∧OwnS w.heap.size w' u (cwords c):=by
 have hln:=right_lens hR
 have HLN:=hid' (show n1 = c.nodes.length∧n2 = c.vals.length∧n3 = c.steps.length from ⟨rs_len hc.nodes,hc.vals.len,hc.steps.len⟩)
 have hri:=fun V (K:Kept w V) => right_any a1 a2 a3 n1 k1 n2 k2 n3 k3 c V (hc.kept K) hln.2.2.2.1 hln.2.2.2.2.1 hln.2.2.2.2.2 ⟨by have:=HLN.out; have:=hln.1; omega,by have:=HLN.out; have:=hln.2.1; omega,by have:=HLN.out; have:=hln.2.2.1; omega⟩
 rw [(right_iff c).2 hR] at hri
 have hcw:cwords c = ([c.name] ++ c.nodes) ++ wwords c.kind c.vals c.steps:=by
  unfold cwords
  rw [hq,if_neg (by decide),if_neg (by decide),if_pos (by decide)]
  simp
 obtain ⟨R,hRR⟩:∃ l,l = cwords c:=⟨_,rfl⟩
 rw [← hRR]
 have HRR:=hid' (hRR.trans hcw)
 clear hRR
 have hn1:0 < n1∧n1≤8:=by
  have h1:=hR.cnt
  have h2:=HLN.out.1
  have h3:=hln.1
  rw [hq] at h1
  unfold nodesN at h1
  have:=of_decide_eq_true h1
  omega
 have HWV:=hid' (hR.wav)
 rw [hq] at HWV
 have hh:=dev_len hR.dev
 have HC:=hid' hc
 clear hR hc hcw hln
 obtain ⟨cn,cnd,cr,⟨cm,cx⟩,ckd,cvs,css⟩:=c
 unfold cdV at hri ⊢
 simp only at hri hh hq HWV HLN HRR ⊢
 obtain ⟨s1,hs1⟩:∃ s,s = bs cn:=⟨_,rfl⟩
 obtain ⟨s3,hs3⟩:∃ s,s = bs cr:=⟨_,rfl⟩
 rw [← hs1,← hs3] at hri ⊢
 have hsz:0 < s1.size:=by rw [hs1,bs_size]; exact hh
 have hszi:(0:Int) < (s1.size:Int):=by omega
 have eh:s1[0].toNat = 118:=by rw [head_of hsz hs1,hq]; rfl
 have HE:=hid' (show s1.data.toList = cn∧s3.data.toList = cr by rw [hs1,hs3]; exact ⟨bs_list _,bs_list _⟩)
 obtain ⟨i0,hi,hz0,hz1,hz2⟩:=info_parts X.info_str
 clear hs1 hs3 hh hq
 go_enter Tryz.func23,Tryz.ntmps23
 go_wp2_with fail
 have hK:=(Kept.refl w).alloc (.cells #[.string s1,.slice a1 n1 k1,.string s3,.int .i64 cm,.int .i64 cx,.int .i64 ckd,.slice a2 n2 k2,.slice a3 n3 k3] 32)
 have hA:=RowL.alloc 32 w [.string s1,.slice a1 n1 k1,.string s3,.int .i64 cm,.int .i64 cx,.int .i64 ckd,.slice a2 n2 k2,.slice a3 n3 k3]
 generalize w.alloc (.cells #[.string s1,.slice a1 n1 k1,.string s3,.int .i64 cm,.int .i64 cx,.int .i64 ckd,.slice a2 n2 k2,.slice a3 n3 k3] 32) = W0 at hK hA ⊢
 obtain ⟨p,hp⟩:∃ q,q = w.heap.size:=⟨_,rfl⟩
 rw [← hp] at hA ⊢
 have HP:=hid' hp
 clear hp
 refine (hri _ hK).mono ?_
 rintro e w1 ⟨hk1,rfl⟩
 have HW:=hid' (And.intro (hK.trans hk1) (hA.kept hk1))
 have kL:=(Kept.refl w1).alloc (.cells #[.string s1] 9)
 have f0:=HW.out.2.cell 0 (.string s1)
 have f1:=HW.out.2.cell 1 (.slice a1 n1 k1)
 have f2:=HW.out.2.cell 2 (.string s3)
 have f3:=HW.out.2.cell 3 (.int .i64 cm)
 have f4:=HW.out.2.cell 4 (.int .i64 cx)
 have f5:=HW.out.2.cell 5 (.int .i64 ckd)
 have f6:=HW.out.2.cell 6 (.slice a2 n2 k2)
 have f7:=HW.out.2.cell 7 (.slice a3 n3 k3)
 have g0:=(HW.out.2.kept kL).cell 0 (.string s1)
 have g1:=(HW.out.2.kept kL).cell 1 (.slice a1 n1 k1)
 have g2:=(HW.out.2.kept kL).cell 2 (.string s3)
 have g3:=(HW.out.2.kept kL).cell 3 (.int .i64 cm)
 have g4:=(HW.out.2.kept kL).cell 4 (.int .i64 cx)
 have g5:=(HW.out.2.kept kL).cell 5 (.int .i64 ckd)
 have g6:=(HW.out.2.kept kL).cell 6 (.slice a2 n2 k2)
 have g7:=(HW.out.2.kept kL).cell 7 (.slice a3 n3 k3)
 have HB:=hid' (show w.heap.size + 1≤w1.heap.size by have:=HW.out.2.lt; have:=HP.out; omega)
 have hLo:=lit_own w1 (w.heap.size + 1) s1 HB.out
 obtain ⟨b,off,rfl,hsrc⟩:∃ b off,a1 = some ⟨b,off,none⟩∧∀ j u,(strs cnd)[j]? = some u→(w1.alloc (.cells #[.string s1] 9)).cell? ((⟨b,off,none⟩:Addr).add j) = some u:=by
  obtain ⟨ad,e,h⟩:=strs_src (HC.out.nodes.kept (HW.out.1.trans kL)) hn1.1
  obtain ⟨b,off,spot⟩:=ad
  have hsp:spot = none:=by
   have h0:=h 0 _ (X.strs_at cnd 0 (by have h9:=hn1.1; rw [HLN.out.1] at h9; exact h9))
   simp [Addr.add] at h0
   exact World.cell?_spot h0
  subst hsp
  exact ⟨b,off,e,h⟩
 clear hK hA hk1 hri
 go_wp2_with (at_builtin; refine wpList_append_lies _ rfl (.tmp 14) (.tmp 16) 22 rfl (w.heap.size + 1) 9 i0 (.string ByteArray.empty) 1 16 X.und_strs hi hz0 hz1 hz2 rfl (by decide) (.slice (some ⟨w1.heap.size,0,none⟩) 1 1) 1 (strs [s1.data.toList]) rfl (by exact hLo) ⟨b,off,none⟩ n1 k1 (strs cnd) rfl (by rw [X.strs_len,HLN.out.1]) hsrc (X.strs_one cnd) (by omega) (by unfold maxLen; omega) (by omega) (by have:=HB.out; simp; omega) _ rfl ?_)
 intro q4 cap4 W4 own4 hg4 hgg _
 have HI0:Hid (CwI w w1 p 32 [.string s1,.slice (some ⟨b,off,none⟩) n1 k1,.string s3,.int .i64 cm,.int .i64 cx,.int .i64 ckd,.slice a2 n2 k2,.slice a3 n3 k3] (.slice (some ⟨w1.heap.size,0,none⟩) 1 1) [])→True:=fun _ => trivial
 have HI:Hid (CwI w W4 p 32 [.string s1,.slice (some ⟨b,off,none⟩) n1 k1,.string s3,.int .i64 cm,.int .i64 cx,.int .i64 ckd,.slice a2 n2 k2,.slice a3 n3 k3] (.slice (some ⟨q4,0,none⟩) (1 + n1) cap4) ([cn] ++ cnd)):=by
  have hl2:CwI w (w1.alloc (.cells #[.string s1] 9)) p 32 [.string s1,.slice (some ⟨b,off,none⟩) n1 k1,.string s3,.int .i64 cm,.int .i64 cx,.int .i64 ckd,.slice a2 n2 k2,.slice a3 n3 k3] (.slice (some ⟨w1.heap.size,0,none⟩) 1 1) [cn]:=⟨HW.out.1.trans kL,by rw [HP.out]; exact Nat.le_refl _,HW.out.2.kept kL,by rw [← HE.out.1]; exact hLo⟩
  refine hl2.add (news:=cnd) (Kept.refl _) ?_ (by rw [List.length_singleton,HLN.out.1]) hg4
  rw [HE.out.1] at own4
  exact own4
 have HLW:=hid' (show ([cn] ++ cnd).length≤40 by rw [List.length_append,List.length_singleton,← HLN.out.1]; omega)
 have hl5:([cn] ++ cnd).length = 1 + n1:=by rw [List.length_append,List.length_singleton,HLN.out.1]
 obtain ⟨wk,hwk⟩:∃ l,l = [cn] ++ cnd:=⟨_,rfl⟩
 rw [← hwk] at HI HLW hl5 HRR
 clear hwk
 rw [← hl5] at HI ⊢
 clear own4 hg4 hgg hLo kL hsrc HI0 f0 f1 f2 f3 f4 f5 f6 f7 g0 g1 g2 g3 g4 g5 g6 g7 hl5
 have kV:=(Kept.refl W4).alloc (.cells #[.int .i64 ckd,.slice a2 n2 k2,.slice a3 n3 k3] 30)
 have hV:=RowL.alloc 30 W4 [.int .i64 ckd,.slice a2 n2 k2,.slice a3 n3 k3]
 have f0:=HI.out.row.cell 0 (.string s1)
 have f1:=HI.out.row.cell 1 (.slice (some ⟨b,off,none⟩) n1 k1)
 have f2:=HI.out.row.cell 2 (.string s3)
 have f3:=HI.out.row.cell 3 (.int .i64 cm)
 have f4:=HI.out.row.cell 4 (.int .i64 cx)
 have f5:=HI.out.row.cell 5 (.int .i64 ckd)
 have f6:=HI.out.row.cell 6 (.slice a2 n2 k2)
 have f7:=HI.out.row.cell 7 (.slice a3 n3 k3)
 have g0:=(HI.out.row.kept kV).cell 0 (.string s1)
 have g1:=(HI.out.row.kept kV).cell 1 (.slice (some ⟨b,off,none⟩) n1 k1)
 have g2:=(HI.out.row.kept kV).cell 2 (.string s3)
 have g3:=(HI.out.row.kept kV).cell 3 (.int .i64 cm)
 have g4:=(HI.out.row.kept kV).cell 4 (.int .i64 cx)
 have g5:=(HI.out.row.kept kV).cell 5 (.int .i64 ckd)
 have g6:=(HI.out.row.kept kV).cell 6 (.slice a2 n2 k2)
 have g7:=(HI.out.row.kept kV).cell 7 (.slice a3 n3 k3)
 have HI:=hid' (HI.out.kept kV)
 have HV:=hid' hV
 clear kV hV
 have HOW:=hid' (show okW ckd cvs css = true by have:=HWV.out; rwa [if_pos (by decide)] at this)
 have hkd:ckd = 1 ∨ ckd = 2 ∨ ckd = 3 ∨ ckd = 4:=by have:=(okW_fit HOW.out).1; omega
 go_upto_region 20 with fail
 generalize W4.alloc (.cells #[.int .i64 ckd,.slice a2 n2 k2,.slice a3 n3 k3] 30) = W5 at HI HV g0 g1 g2 g3 g4 g5 g6 g7 ⊢
 obtain ⟨pw,hpw⟩:∃ q,q = W4.heap.size:=⟨_,rfl⟩
 rw [← hpw] at HV ⊢
 clear hpw
 rcases hkd with rfl | rfl | rfl | rfl
 ·
  have hvl:n2 = 1∧n3 = 0:=by have:=(okW_fit HOW.out).1; have:=HLN.out; omega
  have HWW:=hid' (show wwords 1 cvs css = [[100,99],tx (cvs.getD 0 (0,0))] by
   unfold wwords
   rw [if_neg (by rw [HOW.out]; decide)]
   show [100,99] :: obo cvs css = _
   have h1:cvs.length = 1:=by have:=HLN.out; omega
   have h2:css.length = 0:=by have:=HLN.out; omega
   obtain ⟨x,rfl⟩:=List.length_eq_one_iff.1 h1
   obtain rfl:=List.eq_nil_of_length_eq_zero h2
   rfl)
  obtain ⟨xb,xo,ex,xl,xc⟩:∃ b off,a2 = some ⟨b,off,none⟩∧b < w.heap.size∧∀ j,j < n2→w.cell? ⟨b,off + j * 2,none⟩ = some (.int .i64 (cvs.getD j (0,0)).1)∧w.cell? ⟨b,off + j * 2 + 1,none⟩ = some (.int .i64 (cvs.getD j (0,0)).2):=by
   have hvv:NSl w (.slice a2 n2 k2) cvs:=HC.out.vals
   obtain ⟨ao',c',hv',hx⟩:=hvv
   simp only [Value.slice.injEq] at hv'
   obtain ⟨rfl,e2,rfl⟩:=hv'
   obtain ⟨b,off,e,h1,h2⟩:=hx (by have:=HLN.out; omega)
   exact ⟨b,off,e,h1,fun j hj => h2 j (by have:=HLN.out; omega)⟩
  subst ex
  obtain ⟨q0,q1⟩:=xc 0 (by omega)
  rw [Nat.zero_mul,Nat.add_zero] at q0 q1
  generalize hy:cvs.getD 0 (0,0) = y at q0 q1 HWW
  obtain ⟨y0,y1⟩:=y
  simp only at q0 q1
  have q0:=(Below.cell HI.out.kp (p:=⟨xb,xo,none⟩) xl).trans q0
  have q1:=(Below.cell HI.out.kp (p:=⟨xb,xo + 1,none⟩) xl).trans q1
  have v0:=HV.out.cell 0 (.int .i64 1)
  have v1:=HV.out.cell 1 (.slice (some ⟨xb,xo,none⟩) n2 k2)
  have hn2:0 < n2:=by omega
  have hn2i:(0:Int) < (n2:Int):=by omega
  clear xc hy
  go_wp2_with fail
  refine (rtx7_any y0 y1 _).mono ?_
  rintro e w6 ⟨hk6,rfl⟩
  obtain ⟨tv,htv⟩:∃ t,t = bs (tx (y0,y1)):=⟨_,rfl⟩
  rw [← htv]
  have Htv:=hid' htv
  have HI:=hid' (HI.out.kept hk6)
  clear htv hk6 q0 q1 v0 v1 f0 f1 f2 f3 f4 f5 f6 f7 g0 g1 g2 g3 g4 g5 g6 g7 HV
  have KA:=(Kept.refl w6).alloc (.cells #[.string ⟨#[100,99]⟩,.string tv] 9)
  go_wp2_with (at_builtin; refine wpList_append_lies _ rfl (.tmp 60) (.tmp 66) 22 rfl (w.heap.size + 1) 9 i0 (.string ByteArray.empty) 1 16 X.und_strs hi hz0 hz1 hz2 rfl (by decide) _ wk.length (strs wk) rfl (by exact (HI.out.kept KA).own) ⟨w6.heap.size,0,none⟩ 2 2 [.string ⟨#[100,99]⟩,.string tv] rfl rfl (cell_pair w6 _ _ _) (fun u hu => by simp at hu; rcases hu with rfl | rfl <;> rfl) (by omega) (by have:=HLW.out; unfold maxLen; omega) (by have:=HLW.out; omega) (by have:=HB.out; have:=HI.out.kp.size; have:=HI.out.row.lt; have:=HI.out.le; simp; omega) _ rfl ?_)
  intro q5 cap5 W6 own5 hg5 hgg5 _
  have HI:=hid' (HI.out.add (news:=[[100,99],tv.data.toList]) KA own5 rfl hg5)
  clear own5 hg5 hgg5 KA
  go_wp2_with fail
  go_ret2
  refine ⟨HI.out.kp,_,rfl,?_⟩
  rw [HRR.out,HWW.out]
  have:=own_mono HI.out.own (Nat.le_succ w.heap.size)
  rw [Htv.out,bs_list] at this
  exact this
 ·
  have hvl:n2 = 2∧n3 = 5:=by have:=(okW_fit HOW.out).1; have:=HLN.out; omega
  have HSB:=hid' ((okW_fit HOW.out).2.2)
  have HWW:=hid' (show wwords 2 cvs css = [[112,117,108,115,101],tx (cvs.getD 0 (0,0)),tx (cvs.getD 1 (0,0))] ++ css.map Lib.itoa by
   unfold wwords
   rw [if_neg (by rw [HOW.out]; decide)]
   show [112,117,108,115,101] :: obo cvs css = _
   have h1:cvs.length = 2:=by have:=HLN.out; omega
   match cvs,h1 with
   | [x,y],_ => rfl)
  obtain ⟨xb,xo,ex,xl,xc⟩:∃ b off,a2 = some ⟨b,off,none⟩∧b < w.heap.size∧∀ j,j < n2→w.cell? ⟨b,off + j * 2,none⟩ = some (.int .i64 (cvs.getD j (0,0)).1)∧w.cell? ⟨b,off + j * 2 + 1,none⟩ = some (.int .i64 (cvs.getD j (0,0)).2):=by
   have hvv:NSl w (.slice a2 n2 k2) cvs:=HC.out.vals
   obtain ⟨ao',c',hv',hx⟩:=hvv
   simp only [Value.slice.injEq] at hv'
   obtain ⟨rfl,e2,rfl⟩:=hv'
   obtain ⟨b,off,e,h1,h2⟩:=hx (by have:=HLN.out; omega)
   exact ⟨b,off,e,h1,fun j hj => h2 j (by have:=HLN.out; omega)⟩
  subst ex
  obtain ⟨q0,q1⟩:=xc 0 (by omega)
  obtain ⟨q2,q3⟩:=xc 1 (by omega)
  rw [Nat.zero_mul,Nat.add_zero] at q0 q1
  rw [Nat.one_mul] at q2 q3
  generalize hy:cvs.getD 0 (0,0) = y at q0 q1 HWW
  generalize hz:cvs.getD 1 (0,0) = z at q2 q3 HWW
  obtain ⟨y0,y1⟩:=y
  obtain ⟨z0,z1⟩:=z
  simp only at q0 q1 q2 q3
  have sS:=hid' (fun (V:World) (K:Kept w V) (KV:RowL 30 V pw [.int .i64 2,.slice (some ⟨xb,xo,none⟩) n2 k2,.slice a3 n3 k3]) => And.intro (KV.cell 1 (.slice (some ⟨xb,xo,none⟩) n2 k2)) (And.intro ((Below.cell K (p:=⟨xb,xo,none⟩) xl).trans q0) (And.intro ((Below.cell K (p:=⟨xb,xo + 1,none⟩) xl).trans q1) (And.intro ((Below.cell K (p:=⟨xb,xo + 2,none⟩) xl).trans q2) ((Below.cell K (p:=⟨xb,xo + 2 + 1,none⟩) xl).trans q3)))))
  have v0:=HV.out.cell 0 (.int .i64 2)
  have hn2:0 < n2:=by omega
  have hn2i:(0:Int) < (n2:Int):=by omega
  have hn2a:1 < n2:=by omega
  have hn2b:(1:Int) < (n2:Int):=by omega
  have HVL:=hid' hvl
  clear xc hy hz q0 q1 q2 q3 hvl
  go_upto_region 24 with fail
  clear v0 f0 f1 f2 f3 f4 f5 f6 f7 g0 g1 g2 g3 g4 g5 g6 g7
  go_cut [4] (fun v4 wc => ∃ g cap,v4 = .slice (some ⟨g,0,none⟩) (wk.length + 3) cap∧Hid (CwI w wc p 32 [.string s1,.slice (some ⟨b,off,none⟩) n1 k1,.string s3,.int .i64 cm,.int .i64 cx,.int .i64 2,.slice (some ⟨xb,xo,none⟩) n2 k2,.slice a3 n3 k3] (.slice (some ⟨g,0,none⟩) (wk.length + 3) cap) (wk ++ [[112,117,108,115,101],tx (y0,y1),tx (z0,z1)])∧RowL 30 wc pw [.int .i64 2,.slice (some ⟨xb,xo,none⟩) n2 k2,.slice a3 n3 k3]))
  case first =>
   have KT:Kept W5 W5.drew:=(Kept.refl _).drew
   have HI:=hid' (HI.out.kept KT)
   have HV:=hid' (HV.out.kept KT)
   refine wp_region_held_drew (S:=fun w' => w'.cell? ⟨pw,1,none⟩ = some (.slice (some ⟨xb,xo,none⟩) n2 k2)∧w'.cell? ⟨xb,xo,none⟩ = some (.int .i64 y0)∧w'.cell? ⟨xb,xo + 1,none⟩ = some (.int .i64 y1)∧w'.cell? ⟨xb,xo + 2,none⟩ = some (.int .i64 z0)∧w'.cell? ⟨xb,xo + 2 + 1,none⟩ = some (.int .i64 z1)) (by kernel_rfl) (sS.out _ HI.out.kp HV.out) (fun hHeld => ?_)
   generalize W5.drew = Wd at HI HV hHeld ⊢
   clear KT
   refine tk 0 hHeld ?_
   refine tk 1 hHeld ?_
   refine tk 2 hHeld ?_
   refine tk 3 hHeld ?_
   refine tk 4 hHeld ?_
   refine tk 6 hHeld ?_
   refine tk 7 hHeld ?_
   refine tk 8 hHeld ?_
   refine tk 9 hHeld ?_
   refine rdy 5 fun K hK => ?_
   go_simp
   refine (rtx7_any y0 y1 _).mono ?_
   rintro e w6 ⟨hk6,rfl⟩
   obtain ⟨ty,hty⟩:∃ t,t = bs (tx (y0,y1)):=⟨_,rfl⟩
   rw [← hty]
   have Hty:=hid' hty
   have HI:=hid' (HI.out.kept hk6)
   have HV:=hid' (HV.out.kept hk6)
   refine hK.out _ _ (sS.out _ HI.out.kp HV.out) (fun hHeld => ?_)
   clear hK K hk6 hty
   refine rdy 10 fun K hK => ?_
   go_simp
   refine (rtx7_any z0 z1 _).mono ?_
   rintro e w7 ⟨hk7,rfl⟩
   obtain ⟨tz,htz⟩:∃ t,t = bs (tx (z0,z1)):=⟨_,rfl⟩
   rw [← htz]
   have Htz:=hid' htz
   have HI:=hid' (HI.out.kept hk7)
   have HV:=hid' (HV.out.kept hk7)
   refine hK.out _ _ (sS.out _ HI.out.kp HV.out) (fun hHeld => ?_)
   clear hK K hk7 htz
   refine rdy 11 fun K hK => ?_
   go_simp
   have KA:=(Kept.refl w7).alloc (.cells #[.string ⟨#[112,117,108,115,101]⟩,.string ty,.string tz] 9)
   refine hK.out _ _ (sS.out _ (HI.out.kp.trans KA) (HV.out.kept KA)) (fun hHeld => ?_)
   clear hK K
   refine rdy 12 fun K hK => ?_
   refine wp_append_lies _ (.tmp 70) (.tmp 81) 22 rfl (w.heap.size + 1) 9 i0 (.string ByteArray.empty) 1 16 X.und_strs hi hz0 hz1 hz2 rfl (by decide) _ wk.length (strs wk) rfl (by exact (HI.out.kept KA).own) ⟨w7.heap.size,0,none⟩ 3 3 [.string ⟨#[112,117,108,115,101]⟩,.string ty,.string tz] rfl rfl (cell_trip w7 _ _ _ _) (fun u hu => by simp at hu; rcases hu with rfl | rfl | rfl <;> rfl) (by omega) (by have:=HLW.out; unfold maxLen; omega) (by have:=HLW.out; omega) (by have:=HB.out; have:=HI.out.kp.size; have:=HI.out.row.lt; have:=HI.out.le; have:=HP.out; simp; omega) _ rfl ?_
   intro q5 cap5 W6 own5 hg5 hgg5 _
   have HV:=hid' (wv_add HI.out HV.out KA hg5)
   have HI:=hid' (HI.out.add (news:=[[112,117,108,115,101],ty.data.toList,tz.data.toList]) KA own5 rfl hg5)
   refine hK.out _ _ (sS.out _ HI.out.kp HV.out) (fun hHeld => ?_)
   clear hK K own5 hg5 hgg5 KA
   refine rdy 13 fun K hK => ?_
   go_simp
   refine hK.out _ _ hHeld (fun hHeld => ?_)
   clear hK K
   refine dn ?_
   go_wp2_with fail
   go_meet
   case rel =>
    refine ⟨_,_,rfl,?_,HV.out⟩
    rw [← bs_list (tx (y0,y1)),← Hty.out,← bs_list (tx (z0,z1)),← Htz.out]
    exact HI.out
  case rest =>
  obtain ⟨q5,cap5,rfl,HC5⟩:=hcut
  obtain ⟨wh,hwh⟩:∃ l,l = wk ++ [[112,117,108,115,101],tx (y0,y1),tx (z0,z1)]:=⟨_,rfl⟩
  rw [← hwh] at HC5
  have HWH:=hid' hwh
  have HLH:=hid' (show wh.length≤50 by rw [hwh,List.length_append]; have:=HLW.out; simp only [List.length_cons,List.length_nil]; omega)
  clear hwh
  have HI0:Hid (CwI w wc p 32 [.string s1,.slice (some ⟨b,off,none⟩) n1 k1,.string s3,.int .i64 cm,.int .i64 cx,.int .i64 2,.slice (some ⟨xb,xo,none⟩) n2 k2,.slice a3 n3 k3] (.slice (some ⟨q5,0,none⟩) (wk.length + 3) cap5) (wh ++ (css.take 0).map Lib.itoa)∧RowL 30 wc pw [.int .i64 2,.slice (some ⟨xb,xo,none⟩) n2 k2,.slice a3 n3 k3]):=by
   rw [List.take_zero,List.map_nil,List.append_nil]
   exact HC5.out
  clear HI HV HC5 sS
  generalize (Value.slice (some ⟨q5,0,none⟩) (wk.length + 3) cap5) = u0 at HI0 ⊢
  go_wp2_with fail
  go_loopw [4,6] (fun vu vi wr => ∃ j:Nat,j≤5∧vi = .int .i64 (j:Int)∧Hid (CwI w wr p 32 [.string s1,.slice (some ⟨b,off,none⟩) n1 k1,.string s3,.int .i64 cm,.int .i64 cx,.int .i64 2,.slice (some ⟨xb,xo,none⟩) n2 k2,.slice a3 n3 k3] vu (wh ++ (css.take j).map Lib.itoa)∧RowL 30 wr pw [.int .i64 2,.slice (some ⟨xb,xo,none⟩) n2 k2,.slice a3 n3 k3])) (fun _ vi _ => 5 - (intOf vi).toNat)
  case atStart => exact ⟨0,Nat.zero_le _,rfl,HI0.out⟩
  case round =>
   obtain ⟨j,hj,rfl,HJ⟩:=hrel
   clear HI0
   have HI:=hid' HJ.out.1
   have HV:=hid' HJ.out.2
   clear HJ
   have v2:=HV.out.cell 2 (.slice a3 n3 k3)
   by_cases hjt:j < 5
   ·
    have hji:(j:Int) < 5:=by omega
    have hj3:(j:Int) < (n3:Int):=by have:=HVL.out; omega
    have hj3n:j < n3:=by have:=HVL.out; omega
    obtain ⟨sb,so,es,sl,sc⟩:∃ b off,a3 = some ⟨b,off,none⟩∧b < w.heap.size∧∀ j,j < n3→w.cell? ⟨b,off + j,none⟩ = some (.int .i64 (css.getD j 0)):=by
     have hvv:ISl w (.slice a3 n3 k3) css:=HC.out.steps
     obtain ⟨ao',c',hv',hx⟩:=hvv
     simp only [Value.slice.injEq] at hv'
     obtain ⟨rfl,e2,rfl⟩:=hv'
     obtain ⟨b,off,e,h1,h2⟩:=hx (by have:=HLN.out; omega)
     exact ⟨b,off,e,h1,fun j hj => h2 j (by have:=HLN.out; omega)⟩
    subst es
    have q0:=(Below.cell HI.out.kp (p:=⟨sb,so + j,none⟩) sl).trans (sc j hj3n)
    have HTK:=hid' (show (css.take (j + 1)).map Lib.itoa = (css.take j).map Lib.itoa ++ [Lib.itoa (css.getD j 0)] by
     have hl:=HLN.out.2.2
     rw [List.take_succ_eq_append_getElem (by omega),List.map_append]
     simp [List.getElem?_eq_getElem (show j < css.length by omega)])
    have HBD:=hid' (HSB.out (css.getD j 0) (by
     have hl:=HLN.out.2.2
     rw [List.getD_eq_getElem?_getD,List.getElem?_eq_getElem (by omega)]
     exact List.getElem_mem _))
    generalize hy:css.getD j 0 = y at q0 HTK HBD
    obtain ⟨wj,hwj⟩:∃ l,l = wh ++ (css.take j).map Lib.itoa:=⟨_,rfl⟩
    rw [← hwj] at HI
    have HWJ:=hid' hwj
    have HLW:=hid' (show wj.length≤100 by rw [hwj,List.length_append,List.length_map,List.length_take]; have:=HLH.out; omega)
    clear sc hy hwj
    go_wp2_with fail
    refine (decimal7_any y _ HBD.out.1 HBD.out.2).mono ?_
    rintro e w6 ⟨hk6,rfl⟩
    obtain ⟨tv,htv⟩:∃ t,t = bs (Lib.itoa y):=⟨_,rfl⟩
    rw [← htv]
    have Htv:=hid' htv
    have HI:=hid' (HI.out.kept hk6)
    have HV:=hid' (HV.out.kept hk6)
    clear htv hk6 q0 v2
    have KA:=(Kept.refl w6).alloc (.cells #[.string tv] 9)
    go_wp2_with (at_builtin; refine wpList_append_lies _ rfl (.tmp 87) (.tmp 94) 22 rfl (w.heap.size + 1) 9 i0 (.string ByteArray.empty) 1 16 X.und_strs hi hz0 hz1 hz2 rfl (by decide) _ wj.length (strs wj) rfl (by exact (HI.out.kept KA).own) ⟨w6.heap.size,0,none⟩ 1 1 [.string tv] rfl rfl (X.cell_new w6 _ _) (fun u hu => by simp at hu; subst hu; rfl) (by omega) (by have:=HLW.out; unfold maxLen; omega) (by have:=HLW.out; omega) (by have:=HB.out; have:=HI.out.kp.size; have:=HI.out.row.lt; have:=HI.out.le; simp; omega) _ rfl ?_)
    intro q5 cap5 W7 own5 hg5 hgg5 _
    have HV:=hid' (wv_add HI.out HV.out KA hg5)
    have HI:=hid' (HI.out.add (news:=[tv.data.toList]) KA own5 rfl hg5)
    clear own5 hg5 hgg5 KA
    go_wp2_with fail
    go_roundw
    case rel =>
     refine ⟨j + 1,by omega,by go_num,?_⟩
     rw [HTK.out,← List.append_assoc,← HWJ.out,← bs_list (Lib.itoa y),← Htv.out]
     exact ⟨HI.out,HV.out⟩
    case measure => show 5 - ((j:Int) + 1).toNat < 5 - (j:Int).toNat; omega
   ·
    have hji:¬ (j:Int) < 5:=by omega
    have HF:=hid' (show OwnS w.heap.size wr u4 R by
     rw [HRR.out,HWW.out,← List.append_assoc,← HWH.out]
     have:=own_mono HI.out.own (Nat.le_succ w.heap.size)
     rw [List.take_of_length_le (by rw [← HLN.out.2.2]; have:=HVL.out; omega)] at this
     exact this)
    go_wp2_with fail
    go_ret2
    exact ⟨HI.out.kp,_,rfl,HF.out⟩
 ·
  have hvl:n3 = n2∧1≤n2∧n2≤16:=by have:=(okW_fit HOW.out).1; have:=HLN.out; omega
  have HVL:=hid' hvl
  have hn16:n2≤16:=hvl.2.2
  have HSB:=hid' ((okW_fit HOW.out).2.2)
  have HWW:=hid' (show wwords 3 cvs css = [112,119,108] :: pwlW cvs css by
   unfold wwords
   rw [if_neg (by rw [HOW.out]; decide)]
   rfl)
  obtain ⟨xb,xo,ex,xl,xc⟩:∃ b off,a2 = some ⟨b,off,none⟩∧b < w.heap.size∧∀ j,j < n2→w.cell? ⟨b,off + j * 2,none⟩ = some (.int .i64 (cvs.getD j (0,0)).1)∧w.cell? ⟨b,off + j * 2 + 1,none⟩ = some (.int .i64 (cvs.getD j (0,0)).2):=by
   have hvv:NSl w (.slice a2 n2 k2) cvs:=HC.out.vals
   obtain ⟨ao',c',hv',hx⟩:=hvv
   simp only [Value.slice.injEq] at hv'
   obtain ⟨rfl,e2,rfl⟩:=hv'
   obtain ⟨b,off,e,h1,h2⟩:=hx (by have:=HLN.out; omega)
   exact ⟨b,off,e,h1,fun j hj => h2 j (by have:=HLN.out; omega)⟩
  obtain ⟨sb,so,es,sl,sc⟩:∃ b off,a3 = some ⟨b,off,none⟩∧b < w.heap.size∧∀ j,j < n3→w.cell? ⟨b,off + j,none⟩ = some (.int .i64 (css.getD j 0)):=by
   have hvv:ISl w (.slice a3 n3 k3) css:=HC.out.steps
   obtain ⟨ao',c',hv',hx⟩:=hvv
   simp only [Value.slice.injEq] at hv'
   obtain ⟨rfl,e2,rfl⟩:=hv'
   obtain ⟨b,off,e,h1,h2⟩:=hx (by have:=HLN.out; omega)
   exact ⟨b,off,e,h1,fun j hj => h2 j (by have:=HLN.out; omega)⟩
  subst ex es
  have HXC:=hid' (And.intro xc sc)
  have v0:=HV.out.cell 0 (.int .i64 3)
  clear xc sc hvl
  go_upto_region 31 with fail
  clear v0 f0 f1 f2 f3 f4 f5 f6 f7 g0 g1 g2 g3 g4 g5 g6 g7
  have KA:=(Kept.refl W5).alloc (.cells #[.string ⟨#[112,119,108]⟩] 9)
  go_wp2_with (at_builtin; refine wpList_append_lies _ rfl (.tmp 99) (.tmp 100) 22 rfl (w.heap.size + 1) 9 i0 (.string ByteArray.empty) 1 16 X.und_strs hi hz0 hz1 hz2 rfl (by decide) _ wk.length (strs wk) rfl (by exact (HI.out.kept KA).own) ⟨W5.heap.size,0,none⟩ 1 1 [.string ⟨#[112,119,108]⟩] rfl rfl (X.cell_new W5 _ _) (fun u hu => by simp at hu; subst hu; rfl) (by omega) (by have:=HLW.out; unfold maxLen; omega) (by have:=HLW.out; omega) (by have:=HB.out; have:=HI.out.kp.size; have:=HI.out.row.lt; have:=HI.out.le; simp; omega) _ rfl ?_)
  intro q5 cap5 W6 own5 hg5 hgg5 _
  have HV:=hid' (wv_add HI.out HV.out KA hg5)
  have HI:=hid' (HI.out.add (news:=[[112,119,108]]) KA own5 rfl hg5)
  clear own5 hg5 hgg5 KA
  have HI0:Hid (CwI w W6 p 32 [.string s1,.slice (some ⟨b,off,none⟩) n1 k1,.string s3,.int .i64 cm,.int .i64 cx,.int .i64 3,.slice (some ⟨xb,xo,none⟩) n2 k2,.slice (some ⟨sb,so,none⟩) n3 k3] (.slice (some ⟨q5,0,none⟩) (wk.length + 1) cap5) (wk ++ [[112,119,108]] ++ pwlW (cvs.take 0) (css.take 0))∧RowL 30 W6 pw [.int .i64 3,.slice (some ⟨xb,xo,none⟩) n2 k2,.slice (some ⟨sb,so,none⟩) n3 k3]):=by
   rw [List.take_zero,pwlW,List.append_nil]
   ·
    exact ⟨HI.out,HV.out⟩
   ·
    intro _ _ _ _ h; cases h
  clear HI HV
  generalize (Value.slice (some ⟨q5,0,none⟩) (wk.length + 1) cap5) = u0 at HI0 ⊢
  go_wp2_with fail
  go_loopw [4,7] (fun vu vi wr => ∃ j:Nat,j≤n2∧vi = .int .i64 (j:Int)∧Hid (CwI w wr p 32 [.string s1,.slice (some ⟨b,off,none⟩) n1 k1,.string s3,.int .i64 cm,.int .i64 cx,.int .i64 3,.slice (some ⟨xb,xo,none⟩) n2 k2,.slice (some ⟨sb,so,none⟩) n3 k3] vu (wk ++ [[112,119,108]] ++ pwlW (cvs.take j) (css.take j))∧RowL 30 wr pw [.int .i64 3,.slice (some ⟨xb,xo,none⟩) n2 k2,.slice (some ⟨sb,so,none⟩) n3 k3])) (fun _ vi _ => n2 - (intOf vi).toNat)
  case atStart => exact ⟨0,Nat.zero_le _,rfl,HI0.out⟩
  case round =>
   obtain ⟨j,hj,rfl,HJ⟩:=hrel
   clear HI0
   have HI:=hid' HJ.out.1
   have HV:=hid' HJ.out.2
   clear HJ
   have v1:=HV.out.cell 1 (.slice (some ⟨xb,xo,none⟩) n2 k2)
   by_cases hjt:j < n2
   ·
    have hji:(j:Int) < (n2:Int):=by omega
    have hj3n:j < n3:=by have:=HVL.out; omega
    have hj3:(j:Int) < (n3:Int):=by omega
    obtain ⟨q0,q1⟩:=HXC.out.1 j hjt
    have q2:=HXC.out.2 j hj3n
    have HTK:=hid' (pwlW_take cvs css j (by have:=HLN.out; omega) (by have:=HLN.out; omega))
    have HBD:=hid' (HSB.out (css.getD j 0) (by
     have hl:=HLN.out.2.2
     rw [List.getD_eq_getElem?_getD,List.getElem?_eq_getElem (by omega)]
     exact List.getElem_mem _))
    generalize hy:cvs.getD j (0,0) = y at q0 q1 HTK
    generalize hz:css.getD j 0 = z at q2 HTK HBD
    obtain ⟨y0,y1⟩:=y
    simp only at q0 q1
    have sS:=hid' (fun (V:World) (K:Kept w V) (KV:RowL 30 V pw [.int .i64 3,.slice (some ⟨xb,xo,none⟩) n2 k2,.slice (some ⟨sb,so,none⟩) n3 k3]) => And.intro (KV.cell 1 (.slice (some ⟨xb,xo,none⟩) n2 k2)) (And.intro (KV.cell 2 (.slice (some ⟨sb,so,none⟩) n3 k3)) (And.intro ((Below.cell K (p:=⟨xb,xo + j * 2,none⟩) xl).trans q0) (And.intro ((Below.cell K (p:=⟨xb,xo + j * 2 + 1,none⟩) xl).trans q1) ((Below.cell K (p:=⟨sb,so + j,none⟩) sl).trans q2)))))
    obtain ⟨wj,hwj⟩:∃ l,l = wk ++ [[112,119,108]] ++ pwlW (cvs.take j) (css.take j):=⟨_,rfl⟩
    rw [← hwj] at HI
    have HWJ:=hid' hwj
    have HLW:=hid' (show wj.length≤100 by
     have h1:=pwlW_len (cvs.take j) (css.take j)
     rw [List.length_take] at h1
     rw [hwj,List.length_append,List.length_append]
     have:=HLW.out
     have:=HVL.out
     simp only [List.length_cons,List.length_nil]
     omega)
    clear hy hz hwj q0 q1 q2
    go_upto_region 35 with fail
    clear v1
    have KT:Kept wr wr.drew:=(Kept.refl _).drew
    have HI:=hid' (HI.out.kept KT)
    have HV:=hid' (HV.out.kept KT)
    refine wp_region_held_drew (S:=fun w' => w'.cell? ⟨pw,1,none⟩ = some (.slice (some ⟨xb,xo,none⟩) n2 k2)∧w'.cell? ⟨pw,2,none⟩ = some (.slice (some ⟨sb,so,none⟩) n3 k3)∧w'.cell? ⟨xb,xo + j * 2,none⟩ = some (.int .i64 y0)∧w'.cell? ⟨xb,xo + j * 2 + 1,none⟩ = some (.int .i64 y1)∧w'.cell? ⟨sb,so + j,none⟩ = some (.int .i64 z)) (by kernel_rfl) (sS.out _ HI.out.kp HV.out) (fun hHeld => ?_)
    generalize wr.drew = Wd at HI HV hHeld ⊢
    clear KT
    refine tk 0 hHeld ?_
    refine tk 1 hHeld ?_
    refine tk 2 hHeld ?_
    refine tk 3 hHeld ?_
    refine tk 4 hHeld ?_
    refine tk 5 hHeld ?_
    refine tk 7 hHeld ?_
    refine tk 8 hHeld ?_
    refine tk 9 hHeld ?_
    refine tk 10 hHeld ?_
    refine tk 11 hHeld ?_
    refine rdy 6 fun K hK => ?_
    go_simp
    refine (decimal7_any z _ HBD.out.1 HBD.out.2).mono ?_
    rintro e w6 ⟨hk6,rfl⟩
    obtain ⟨ty,hty⟩:∃ t,t = bs (Lib.itoa z):=⟨_,rfl⟩
    rw [← hty]
    have Hty:=hid' hty
    have HI:=hid' (HI.out.kept hk6)
    have HV:=hid' (HV.out.kept hk6)
    refine hK.out _ _ (sS.out _ HI.out.kp HV.out) (fun hHeld => ?_)
    clear hK K hk6 hty
    refine rdy 12 fun K hK => ?_
    go_simp
    refine (rtx7_any y0 y1 _).mono ?_
    rintro e w7 ⟨hk7,rfl⟩
    obtain ⟨tz,htz⟩:∃ t,t = bs (tx (y0,y1)):=⟨_,rfl⟩
    rw [← htz]
    have Htz:=hid' htz
    have HI:=hid' (HI.out.kept hk7)
    have HV:=hid' (HV.out.kept hk7)
    refine hK.out _ _ (sS.out _ HI.out.kp HV.out) (fun hHeld => ?_)
    clear hK K hk7 htz
    refine rdy 13 fun K hK => ?_
    go_simp
    have KA:=(Kept.refl w7).alloc (.cells #[.string ty,.string tz] 9)
    refine hK.out _ _ (sS.out _ (HI.out.kp.trans KA) (HV.out.kept KA)) (fun hHeld => ?_)
    clear hK K
    refine rdy 14 fun K hK => ?_
    refine wp_append_lies _ (.tmp 109) (.tmp 122) 22 rfl (w.heap.size + 1) 9 i0 (.string ByteArray.empty) 1 16 X.und_strs hi hz0 hz1 hz2 rfl (by decide) _ wj.length (strs wj) rfl (by exact (HI.out.kept KA).own) ⟨w7.heap.size,0,none⟩ 2 2 [.string ty,.string tz] rfl rfl (cell_pair w7 _ _ _) (fun u hu => by simp at hu; rcases hu with rfl | rfl <;> rfl) (by omega) (by have:=HLW.out; unfold maxLen; omega) (by have:=HLW.out; omega) (by have:=HB.out; have:=HI.out.kp.size; have:=HI.out.row.lt; have:=HI.out.le; have:=HP.out; simp; omega) _ rfl ?_
    intro q5 cap5 W7 own5 hg5 hgg5 _
    have HV:=hid' (wv_add HI.out HV.out KA hg5)
    have HI:=hid' (HI.out.add (news:=[ty.data.toList,tz.data.toList]) KA own5 rfl hg5)
    refine hK.out _ _ (sS.out _ HI.out.kp HV.out) (fun hHeld => ?_)
    clear hK K own5 hg5 hgg5 KA
    refine rdy 15 fun K hK => ?_
    go_simp
    refine hK.out _ _ hHeld (fun hHeld => ?_)
    clear hK K
    refine dn ?_
    go_wp2_with fail
    go_roundw
    case rel =>
     refine ⟨j + 1,by omega,by go_num,?_⟩
     rw [HTK.out,← List.append_assoc,← HWJ.out,← bs_list (tx (y0,y1)),← Htz.out,← bs_list (Lib.itoa z),← Hty.out]
     exact ⟨HI.out,HV.out⟩
    case measure => show n2 - ((j:Int) + 1).toNat < n2 - (j:Int).toNat; omega
   ·
    have hji:¬ (j:Int) < (n2:Int):=by omega
    have HF:=hid' (show OwnS w.heap.size wr u4 R by
     rw [HRR.out,HWW.out]
     have:=own_mono HI.out.own (Nat.le_succ w.heap.size)
     rw [List.take_of_length_le (by rw [← HLN.out.2.1]; omega),List.take_of_length_le (by rw [← HLN.out.2.2]; have:=HVL.out; omega),List.append_assoc] at this
     exact this)
    go_wp2_with fail
    go_ret2
    exact ⟨HI.out.kp,_,rfl,HF.out⟩
 ·
  have HWW:=hid' (show wwords 4 cvs css = [116,97,98,108,101] :: cvs.map tx by
   unfold wwords
   rw [if_neg (by rw [HOW.out]; decide)]
   show [116,97,98,108,101] :: obo cvs css = _
   have h2:css.length = 0:=by have:=(okW_fit HOW.out).1; omega
   obtain rfl:=List.eq_nil_of_length_eq_zero h2
   simp [obo])
  have hn16:n2≤16:=by have:=(okW_fit HOW.out).1; have:=HLN.out; omega
  have v0:=HV.out.cell 0 (.int .i64 4)
  go_upto_region 37 with fail
  clear v0 f0 f1 f2 f3 f4 f5 f6 f7 g0 g1 g2 g3 g4 g5 g6 g7
  have KA:=(Kept.refl W5).alloc (.cells #[.string ⟨#[116,97,98,108,101]⟩] 9)
  go_wp2_with (at_builtin; refine wpList_append_lies _ rfl (.tmp 125) (.tmp 126) 22 rfl (w.heap.size + 1) 9 i0 (.string ByteArray.empty) 1 16 X.und_strs hi hz0 hz1 hz2 rfl (by decide) _ wk.length (strs wk) rfl (by exact (HI.out.kept KA).own) ⟨W5.heap.size,0,none⟩ 1 1 [.string ⟨#[116,97,98,108,101]⟩] rfl rfl (X.cell_new W5 _ _) (fun u hu => by simp at hu; subst hu; rfl) (by omega) (by have:=HLW.out; unfold maxLen; omega) (by have:=HLW.out; omega) (by have:=HB.out; have:=HI.out.kp.size; have:=HI.out.row.lt; have:=HI.out.le; simp; omega) _ rfl ?_)
  intro q5 cap5 W6 own5 hg5 hgg5 _
  have HV:=hid' (wv_add HI.out HV.out KA hg5)
  have HI:=hid' (HI.out.add (news:=[[116,97,98,108,101]]) KA own5 rfl hg5)
  clear own5 hg5 hgg5 KA
  have HI0:Hid (CwI w W6 p 32 [.string s1,.slice (some ⟨b,off,none⟩) n1 k1,.string s3,.int .i64 cm,.int .i64 cx,.int .i64 4,.slice a2 n2 k2,.slice a3 n3 k3] (.slice (some ⟨q5,0,none⟩) (wk.length + 1) cap5) (wk ++ [[116,97,98,108,101]] ++ (cvs.take 0).map tx)∧RowL 30 W6 pw [.int .i64 4,.slice a2 n2 k2,.slice a3 n3 k3]):=by
   rw [List.take_zero,List.map_nil,List.append_nil]
   exact ⟨HI.out,HV.out⟩
  clear HI HV
  generalize (Value.slice (some ⟨q5,0,none⟩) (wk.length + 1) cap5) = u0 at HI0 ⊢
  go_wp2_with fail
  go_loopw [4,8] (fun vu vi wr => ∃ j:Nat,j≤n2∧vi = .int .i64 (j:Int)∧Hid (CwI w wr p 32 [.string s1,.slice (some ⟨b,off,none⟩) n1 k1,.string s3,.int .i64 cm,.int .i64 cx,.int .i64 4,.slice a2 n2 k2,.slice a3 n3 k3] vu (wk ++ [[116,97,98,108,101]] ++ (cvs.take j).map tx)∧RowL 30 wr pw [.int .i64 4,.slice a2 n2 k2,.slice a3 n3 k3])) (fun _ vi _ => n2 - (intOf vi).toNat)
  case atStart => exact ⟨0,Nat.zero_le _,rfl,HI0.out⟩
  case round =>
   obtain ⟨j,hj,rfl,HJ⟩:=hrel
   clear HI0
   have HI:=hid' HJ.out.1
   have HV:=hid' HJ.out.2
   clear HJ
   have v1:=HV.out.cell 1 (.slice a2 n2 k2)
   by_cases hjt:j < n2
   ·
    have hji:(j:Int) < (n2:Int):=by omega
    obtain ⟨xb,xo,ex,xl,xc⟩:∃ b off,a2 = some ⟨b,off,none⟩∧b < w.heap.size∧∀ j,j < n2→w.cell? ⟨b,off + j * 2,none⟩ = some (.int .i64 (cvs.getD j (0,0)).1)∧w.cell? ⟨b,off + j * 2 + 1,none⟩ = some (.int .i64 (cvs.getD j (0,0)).2):=by
     have hvv:NSl w (.slice a2 n2 k2) cvs:=HC.out.vals
     obtain ⟨ao',c',hv',hx⟩:=hvv
     simp only [Value.slice.injEq] at hv'
     obtain ⟨rfl,e2,rfl⟩:=hv'
     obtain ⟨b,off,e,h1,h2⟩:=hx (by have:=HLN.out; omega)
     exact ⟨b,off,e,h1,fun j hj => h2 j (by have:=HLN.out; omega)⟩
    subst ex
    obtain ⟨q0,q1⟩:=xc j hjt
    have HTK:=hid' (show (cvs.take (j + 1)).map tx = (cvs.take j).map tx ++ [tx (cvs.getD j (0,0))] by
     have hl:=HLN.out.2.1
     rw [List.take_succ_eq_append_getElem (by omega),List.map_append]
     simp [List.getElem?_eq_getElem (show j < cvs.length by omega)])
    generalize hy:cvs.getD j (0,0) = y at q0 q1 HTK
    obtain ⟨y0,y1⟩:=y
    simp only at q0 q1
    have q0:=(Below.cell HI.out.kp (p:=⟨xb,xo + j * 2,none⟩) xl).trans q0
    have q1:=(Below.cell HI.out.kp (p:=⟨xb,xo + j * 2 + 1,none⟩) xl).trans q1
    obtain ⟨wj,hwj⟩:∃ l,l = wk ++ [[116,97,98,108,101]] ++ (cvs.take j).map tx:=⟨_,rfl⟩
    rw [← hwj] at HI
    have HWJ:=hid' hwj
    have HLW:=hid' (show wj.length≤100 by rw [hwj,List.length_append,List.length_append,List.length_map,List.length_take]; have:=HLW.out; simp only [List.length_cons,List.length_nil]; omega)
    clear xc hy hwj
    go_wp2_with fail
    refine (rtx7_any y0 y1 _).mono ?_
    rintro e w6 ⟨hk6,rfl⟩
    obtain ⟨tv,htv⟩:∃ t,t = bs (tx (y0,y1)):=⟨_,rfl⟩
    rw [← htv]
    have Htv:=hid' htv
    have HI:=hid' (HI.out.kept hk6)
    have HV:=hid' (HV.out.kept hk6)
    clear htv hk6 q0 q1 v1
    have KA:=(Kept.refl w6).alloc (.cells #[.string tv] 9)
    go_wp2_with (at_builtin; refine wpList_append_lies _ rfl (.tmp 135) (.tmp 142) 22 rfl (w.heap.size + 1) 9 i0 (.string ByteArray.empty) 1 16 X.und_strs hi hz0 hz1 hz2 rfl (by decide) _ wj.length (strs wj) rfl (by exact (HI.out.kept KA).own) ⟨w6.heap.size,0,none⟩ 1 1 [.string tv] rfl rfl (X.cell_new w6 _ _) (fun u hu => by simp at hu; subst hu; rfl) (by omega) (by have:=HLW.out; unfold maxLen; omega) (by have:=HLW.out; omega) (by have:=HB.out; have:=HI.out.kp.size; have:=HI.out.row.lt; have:=HI.out.le; simp; omega) _ rfl ?_)
    intro q5 cap5 W7 own5 hg5 hgg5 _
    have HV:=hid' (wv_add HI.out HV.out KA hg5)
    have HI:=hid' (HI.out.add (news:=[tv.data.toList]) KA own5 rfl hg5)
    clear own5 hg5 hgg5 KA
    go_wp2_with fail
    go_roundw
    case rel =>
     refine ⟨j + 1,by omega,by go_num,?_⟩
     rw [HTK.out,← List.append_assoc,← HWJ.out,← bs_list (tx (y0,y1)),← Htv.out]
     exact ⟨HI.out,HV.out⟩
    case measure => show n2 - ((j:Int) + 1).toNat < n2 - (j:Int).toNat; omega
   ·
    have hji:¬ (j:Int) < (n2:Int):=by omega
    have HF:=hid' (show OwnS w.heap.size wr u4 R by
     rw [HRR.out,HWW.out]
     have:=own_mono HI.out.own (Nat.le_succ w.heap.size)
     rw [List.take_of_length_le (by rw [← HLN.out.2.1]; omega),List.append_assoc] at this
     exact this)
    go_wp2_with fail
    go_ret2
    exact ⟨HI.out.kp,_,rfl,HF.out⟩
set_option maxRecDepth 100000 in
set_option maxHeartbeats 8000000 in
theorem rwr_l105 (a1 a2 a3:Option Addr) (n1 k1 n2 k2 n3 k3:Nat) (c:Cd) (w:World) (hc:CdR w a1 n1 k1 a2 n2 k2 a3 n3 k3 c) (hR:RightC c) (hq:c.name.getD 0 0 = 105) :
  Calls Tryz.prog 23 #[cdV c (.slice a1 n1 k1) (.slice a2 n2 k2) (.slice a3 n3 k3)] w fun e w' => Kept w w'∧∃ u,e = .returned (.tuple #[u,.int .i64 0])∧OwnS w.heap.size w' u (cwords c):=by
 have hln:=right_lens hR
 have HLN:=hid' (show n1 = c.nodes.length∧n2 = c.vals.length∧n3 = c.steps.length from ⟨rs_len hc.nodes,hc.vals.len,hc.steps.len⟩)
 have hri:=fun V (K:Kept w V) => right_any a1 a2 a3 n1 k1 n2 k2 n3 k3 c V (hc.kept K) hln.2.2.2.1 hln.2.2.2.2.1 hln.2.2.2.2.2 ⟨by have:=HLN.out; have:=hln.1; omega,by have:=HLN.out; have:=hln.2.1; omega,by have:=HLN.out; have:=hln.2.2.1; omega⟩
 rw [(right_iff c).2 hR] at hri
 have hcw:cwords c = ([c.name] ++ c.nodes) ++ wwords c.kind c.vals c.steps:=by
  unfold cwords
  rw [hq,if_neg (by decide),if_neg (by decide),if_pos (by decide)]
  simp
 obtain ⟨R,hRR⟩:∃ l,l = cwords c:=⟨_,rfl⟩
 rw [← hRR]
 have HRR:=hid' (hRR.trans hcw)
 clear hRR
 have hn1:0 < n1∧n1≤8:=by
  have h1:=hR.cnt
  have h2:=HLN.out.1
  have h3:=hln.1
  rw [hq] at h1
  unfold nodesN at h1
  have:=of_decide_eq_true h1
  omega
 have HWV:=hid' (hR.wav)
 rw [hq] at HWV
 have hh:=dev_len hR.dev
 have HC:=hid' hc
 clear hR hc hcw hln
 obtain ⟨cn,cnd,cr,⟨cm,cx⟩,ckd,cvs,css⟩:=c
 unfold cdV at hri ⊢
 simp only at hri hh hq HWV HLN HRR ⊢
 obtain ⟨s1,hs1⟩:∃ s,s = bs cn:=⟨_,rfl⟩
 obtain ⟨s3,hs3⟩:∃ s,s = bs cr:=⟨_,rfl⟩
 rw [← hs1,← hs3] at hri ⊢
 have hsz:0 < s1.size:=by rw [hs1,bs_size]; exact hh
 have hszi:(0:Int) < (s1.size:Int):=by omega
 have eh:s1[0].toNat = 105:=by rw [head_of hsz hs1,hq]; rfl
 have HE:=hid' (show s1.data.toList = cn∧s3.data.toList = cr by rw [hs1,hs3]; exact ⟨bs_list _,bs_list _⟩)
 obtain ⟨i0,hi,hz0,hz1,hz2⟩:=info_parts X.info_str
 clear hs1 hs3 hh hq
 go_enter Tryz.func23,Tryz.ntmps23
 go_wp2_with fail
 have hK:=(Kept.refl w).alloc (.cells #[.string s1,.slice a1 n1 k1,.string s3,.int .i64 cm,.int .i64 cx,.int .i64 ckd,.slice a2 n2 k2,.slice a3 n3 k3] 32)
 have hA:=RowL.alloc 32 w [.string s1,.slice a1 n1 k1,.string s3,.int .i64 cm,.int .i64 cx,.int .i64 ckd,.slice a2 n2 k2,.slice a3 n3 k3]
 generalize w.alloc (.cells #[.string s1,.slice a1 n1 k1,.string s3,.int .i64 cm,.int .i64 cx,.int .i64 ckd,.slice a2 n2 k2,.slice a3 n3 k3] 32) = W0 at hK hA ⊢
 obtain ⟨p,hp⟩:∃ q,q = w.heap.size:=⟨_,rfl⟩
 rw [← hp] at hA ⊢
 have HP:=hid' hp
 clear hp
 refine (hri _ hK).mono ?_
 rintro e w1 ⟨hk1,rfl⟩
 have HW:=hid' (And.intro (hK.trans hk1) (hA.kept hk1))
 have kL:=(Kept.refl w1).alloc (.cells #[.string s1] 9)
 have f0:=HW.out.2.cell 0 (.string s1)
 have f1:=HW.out.2.cell 1 (.slice a1 n1 k1)
 have f2:=HW.out.2.cell 2 (.string s3)
 have f3:=HW.out.2.cell 3 (.int .i64 cm)
 have f4:=HW.out.2.cell 4 (.int .i64 cx)
 have f5:=HW.out.2.cell 5 (.int .i64 ckd)
 have f6:=HW.out.2.cell 6 (.slice a2 n2 k2)
 have f7:=HW.out.2.cell 7 (.slice a3 n3 k3)
 have g0:=(HW.out.2.kept kL).cell 0 (.string s1)
 have g1:=(HW.out.2.kept kL).cell 1 (.slice a1 n1 k1)
 have g2:=(HW.out.2.kept kL).cell 2 (.string s3)
 have g3:=(HW.out.2.kept kL).cell 3 (.int .i64 cm)
 have g4:=(HW.out.2.kept kL).cell 4 (.int .i64 cx)
 have g5:=(HW.out.2.kept kL).cell 5 (.int .i64 ckd)
 have g6:=(HW.out.2.kept kL).cell 6 (.slice a2 n2 k2)
 have g7:=(HW.out.2.kept kL).cell 7 (.slice a3 n3 k3)
 have HB:=hid' (show w.heap.size + 1≤w1.heap.size by have:=HW.out.2.lt; have:=HP.out; omega)
 have hLo:=lit_own w1 (w.heap.size + 1) s1 HB.out
 obtain ⟨b,off,rfl,hsrc⟩:∃ b off,a1 = some ⟨b,off,none⟩∧∀ j u,(strs cnd)[j]? = some u→(w1.alloc (.cells #[.string s1] 9)).cell? ((⟨b,off,none⟩:Addr).add j) = some u:=by
  obtain ⟨ad,e,h⟩:=strs_src (HC.out.nodes.kept (HW.out.1.trans kL)) hn1.1
  obtain ⟨b,off,spot⟩:=ad
  have hsp:spot = none:=by
   have h0:=h 0 _ (X.strs_at cnd 0 (by have h9:=hn1.1; rw [HLN.out.1] at h9; exact h9))
   simp [Addr.add] at h0
   exact World.cell?_spot h0
  subst hsp
  exact ⟨b,off,e,h⟩
 clear hK hA hk1 hri
 go_wp2_with (at_builtin; refine wpList_append_lies _ rfl (.tmp 14) (.tmp 16) 22 rfl (w.heap.size + 1) 9 i0 (.string ByteArray.empty) 1 16 X.und_strs hi hz0 hz1 hz2 rfl (by decide) (.slice (some ⟨w1.heap.size,0,none⟩) 1 1) 1 (strs [s1.data.toList]) rfl (by exact hLo) ⟨b,off,none⟩ n1 k1 (strs cnd) rfl (by rw [X.strs_len,HLN.out.1]) hsrc (X.strs_one cnd) (by omega) (by unfold maxLen; omega) (by omega) (by have:=HB.out; simp; omega) _ rfl ?_)
 intro q4 cap4 W4 own4 hg4 hgg _
 have HI0:Hid (CwI w w1 p 32 [.string s1,.slice (some ⟨b,off,none⟩) n1 k1,.string s3,.int .i64 cm,.int .i64 cx,.int .i64 ckd,.slice a2 n2 k2,.slice a3 n3 k3] (.slice (some ⟨w1.heap.size,0,none⟩) 1 1) [])→True:=fun _ => trivial
 have HI:Hid (CwI w W4 p 32 [.string s1,.slice (some ⟨b,off,none⟩) n1 k1,.string s3,.int .i64 cm,.int .i64 cx,.int .i64 ckd,.slice a2 n2 k2,.slice a3 n3 k3] (.slice (some ⟨q4,0,none⟩) (1 + n1) cap4) ([cn] ++ cnd)):=by
  have hl2:CwI w (w1.alloc (.cells #[.string s1] 9)) p 32 [.string s1,.slice (some ⟨b,off,none⟩) n1 k1,.string s3,.int .i64 cm,.int .i64 cx,.int .i64 ckd,.slice a2 n2 k2,.slice a3 n3 k3] (.slice (some ⟨w1.heap.size,0,none⟩) 1 1) [cn]:=⟨HW.out.1.trans kL,by rw [HP.out]; exact Nat.le_refl _,HW.out.2.kept kL,by rw [← HE.out.1]; exact hLo⟩
  refine hl2.add (news:=cnd) (Kept.refl _) ?_ (by rw [List.length_singleton,HLN.out.1]) hg4
  rw [HE.out.1] at own4
  exact own4
 have HLW:=hid' (show ([cn] ++ cnd).length≤40 by rw [List.length_append,List.length_singleton,← HLN.out.1]; omega)
 have hl5:([cn] ++ cnd).length = 1 + n1:=by rw [List.length_append,List.length_singleton,HLN.out.1]
 obtain ⟨wk,hwk⟩:∃ l,l = [cn] ++ cnd:=⟨_,rfl⟩
 rw [← hwk] at HI HLW hl5 HRR
 clear hwk
 rw [← hl5] at HI ⊢
 clear own4 hg4 hgg hLo kL hsrc HI0 f0 f1 f2 f3 f4 f5 f6 f7 g0 g1 g2 g3 g4 g5 g6 g7 hl5
 have kV:=(Kept.refl W4).alloc (.cells #[.int .i64 ckd,.slice a2 n2 k2,.slice a3 n3 k3] 30)
 have hV:=RowL.alloc 30 W4 [.int .i64 ckd,.slice a2 n2 k2,.slice a3 n3 k3]
 have f0:=HI.out.row.cell 0 (.string s1)
 have f1:=HI.out.row.cell 1 (.slice (some ⟨b,off,none⟩) n1 k1)
 have f2:=HI.out.row.cell 2 (.string s3)
 have f3:=HI.out.row.cell 3 (.int .i64 cm)
 have f4:=HI.out.row.cell 4 (.int .i64 cx)
 have f5:=HI.out.row.cell 5 (.int .i64 ckd)
 have f6:=HI.out.row.cell 6 (.slice a2 n2 k2)
 have f7:=HI.out.row.cell 7 (.slice a3 n3 k3)
 have g0:=(HI.out.row.kept kV).cell 0 (.string s1)
 have g1:=(HI.out.row.kept kV).cell 1 (.slice (some ⟨b,off,none⟩) n1 k1)
 have g2:=(HI.out.row.kept kV).cell 2 (.string s3)
 have g3:=(HI.out.row.kept kV).cell 3 (.int .i64 cm)
 have g4:=(HI.out.row.kept kV).cell 4 (.int .i64 cx)
 have g5:=(HI.out.row.kept kV).cell 5 (.int .i64 ckd)
 have g6:=(HI.out.row.kept kV).cell 6 (.slice a2 n2 k2)
 have g7:=(HI.out.row.kept kV).cell 7 (.slice a3 n3 k3)
 have HI:=hid' (HI.out.kept kV)
 have HV:=hid' hV
 clear kV hV
 have HOW:=hid' (show okW ckd cvs css = true by have:=HWV.out; rwa [if_pos (by decide)] at this)
 have hkd:ckd = 1 ∨ ckd = 2 ∨ ckd = 3 ∨ ckd = 4:=by have:=(okW_fit HOW.out).1; omega
 go_upto_region 20 with fail
 generalize W4.alloc (.cells #[.int .i64 ckd,.slice a2 n2 k2,.slice a3 n3 k3] 30) = W5 at HI HV g0 g1 g2 g3 g4 g5 g6 g7 ⊢
 obtain ⟨pw,hpw⟩:∃ q,q = W4.heap.size:=⟨_,rfl⟩
 rw [← hpw] at HV ⊢
 clear hpw
 rcases hkd with rfl | rfl | rfl | rfl
 ·
  have hvl:n2 = 1∧n3 = 0:=by have:=(okW_fit HOW.out).1; have:=HLN.out; omega
  have HWW:=hid' (show wwords 1 cvs css = [[100,99],tx (cvs.getD 0 (0,0))] by
   unfold wwords
   rw [if_neg (by rw [HOW.out]; decide)]
   show [100,99] :: obo cvs css = _
   have h1:cvs.length = 1:=by have:=HLN.out; omega
   have h2:css.length = 0:=by have:=HLN.out; omega
   obtain ⟨x,rfl⟩:=List.length_eq_one_iff.1 h1
   obtain rfl:=List.eq_nil_of_length_eq_zero h2
   rfl)
  obtain ⟨xb,xo,ex,xl,xc⟩:∃ b off,a2 = some ⟨b,off,none⟩∧b < w.heap.size∧∀ j,j < n2→w.cell? ⟨b,off + j * 2,none⟩ = some (.int .i64 (cvs.getD j (0,0)).1)∧w.cell? ⟨b,off + j * 2 + 1,none⟩ = some (.int .i64 (cvs.getD j (0,0)).2):=by
   have hvv:NSl w (.slice a2 n2 k2) cvs:=HC.out.vals
   obtain ⟨ao',c',hv',hx⟩:=hvv
   simp only [Value.slice.injEq] at hv'
   obtain ⟨rfl,e2,rfl⟩:=hv'
   obtain ⟨b,off,e,h1,h2⟩:=hx (by have:=HLN.out; omega)
   exact ⟨b,off,e,h1,fun j hj => h2 j (by have:=HLN.out; omega)⟩
  subst ex
  obtain ⟨q0,q1⟩:=xc 0 (by omega)
  rw [Nat.zero_mul,Nat.add_zero] at q0 q1
  generalize hy:cvs.getD 0 (0,0) = y at q0 q1 HWW
  obtain ⟨y0,y1⟩:=y
  simp only at q0 q1
  have q0:=(Below.cell HI.out.kp (p:=⟨xb,xo,none⟩) xl).trans q0
  have q1:=(Below.cell HI.out.kp (p:=⟨xb,xo + 1,none⟩) xl).trans q1
  have v0:=HV.out.cell 0 (.int .i64 1)
  have v1:=HV.out.cell 1 (.slice (some ⟨xb,xo,none⟩) n2 k2)
  have hn2:0 < n2:=by omega
  have hn2i:(0:Int) < (n2:Int):=by omega
  clear xc hy
  go_wp2_with fail
  refine (rtx7_any y0 y1 _).mono ?_
  rintro e w6 ⟨hk6,rfl⟩
  obtain ⟨tv,htv⟩:∃ t,t = bs (tx (y0,y1)):=⟨_,rfl⟩
  rw [← htv]
  have Htv:=hid' htv
  have HI:=hid' (HI.out.kept hk6)
  clear htv hk6 q0 q1 v0 v1 f0 f1 f2 f3 f4 f5 f6 f7 g0 g1 g2 g3 g4 g5 g6 g7 HV
  have KA:=(Kept.refl w6).alloc (.cells #[.string ⟨#[100,99]⟩,.string tv] 9)
  go_wp2_with (at_builtin; refine wpList_append_lies _ rfl (.tmp 60) (.tmp 66) 22 rfl (w.heap.size + 1) 9 i0 (.string ByteArray.empty) 1 16 X.und_strs hi hz0 hz1 hz2 rfl (by decide) _ wk.length (strs wk) rfl (by exact (HI.out.kept KA).own) ⟨w6.heap.size,0,none⟩ 2 2 [.string ⟨#[100,99]⟩,.string tv] rfl rfl (cell_pair w6 _ _ _) (fun u hu => by simp at hu; rcases hu with rfl | rfl <;> rfl) (by omega) (by have:=HLW.out; unfold maxLen; omega) (by have:=HLW.out; omega) (by have:=HB.out; have:=HI.out.kp.size; have:=HI.out.row.lt; have:=HI.out.le; simp; omega) _ rfl ?_)
  intro q5 cap5 W6 own5 hg5 hgg5 _
  have HI:=hid' (HI.out.add (news:=[[100,99],tv.data.toList]) KA own5 rfl hg5)
  clear own5 hg5 hgg5 KA
  go_wp2_with fail
  go_ret2
  refine ⟨HI.out.kp,_,rfl,?_⟩
  rw [HRR.out,HWW.out]
  have:=own_mono HI.out.own (Nat.le_succ w.heap.size)
  rw [Htv.out,bs_list] at this
  exact this
 ·
  have hvl:n2 = 2∧n3 = 5:=by have:=(okW_fit HOW.out).1; have:=HLN.out; omega
  have HSB:=hid' ((okW_fit HOW.out).2.2)
  have HWW:=hid' (show wwords 2 cvs css = [[112,117,108,115,101],tx (cvs.getD 0 (0,0)),tx (cvs.getD 1 (0,0))] ++ css.map Lib.itoa by
   unfold wwords
   rw [if_neg (by rw [HOW.out]; decide)]
   show [112,117,108,115,101] :: obo cvs css = _
   have h1:cvs.length = 2:=by have:=HLN.out; omega
   match cvs,h1 with
   | [x,y],_ => rfl)
  obtain ⟨xb,xo,ex,xl,xc⟩:∃ b off,a2 = some ⟨b,off,none⟩∧b < w.heap.size∧∀ j,j < n2→w.cell? ⟨b,off + j * 2,none⟩ = some (.int .i64 (cvs.getD j (0,0)).1)∧w.cell? ⟨b,off + j * 2 + 1,none⟩ = some (.int .i64 (cvs.getD j (0,0)).2):=by
   have hvv:NSl w (.slice a2 n2 k2) cvs:=HC.out.vals
   obtain ⟨ao',c',hv',hx⟩:=hvv
   simp only [Value.slice.injEq] at hv'
   obtain ⟨rfl,e2,rfl⟩:=hv'
   obtain ⟨b,off,e,h1,h2⟩:=hx (by have:=HLN.out; omega)
   exact ⟨b,off,e,h1,fun j hj => h2 j (by have:=HLN.out; omega)⟩
  subst ex
  obtain ⟨q0,q1⟩:=xc 0 (by omega)
  obtain ⟨q2,q3⟩:=xc 1 (by omega)
  rw [Nat.zero_mul,Nat.add_zero] at q0 q1
  rw [Nat.one_mul] at q2 q3
  generalize hy:cvs.getD 0 (0,0) = y at q0 q1 HWW
  generalize hz:cvs.getD 1 (0,0) = z at q2 q3 HWW
  obtain ⟨y0,y1⟩:=y
  obtain ⟨z0,z1⟩:=z
  simp only at q0 q1 q2 q3
  have sS:=hid' (fun (V:World) (K:Kept w V) (KV:RowL 30 V pw [.int .i64 2,.slice (some ⟨xb,xo,none⟩) n2 k2,.slice a3 n3 k3]) => And.intro (KV.cell 1 (.slice (some ⟨xb,xo,none⟩) n2 k2)) (And.intro ((Below.cell K (p:=⟨xb,xo,none⟩) xl).trans q0) (And.intro ((Below.cell K (p:=⟨xb,xo + 1,none⟩) xl).trans q1) (And.intro ((Below.cell K (p:=⟨xb,xo + 2,none⟩) xl).trans q2) ((Below.cell K (p:=⟨xb,xo + 2 + 1,none⟩) xl).trans q3)))))
  have v0:=HV.out.cell 0 (.int .i64 2)
  have hn2:0 < n2:=by omega
  have hn2i:(0:Int) < (n2:Int):=by omega
  have hn2a:1 < n2:=by omega
  have hn2b:(1:Int) < (n2:Int):=by omega
  have HVL:=hid' hvl
  clear xc hy hz q0 q1 q2 q3 hvl
  go_upto_region 24 with fail
  clear v0 f0 f1 f2 f3 f4 f5 f6 f7 g0 g1 g2 g3 g4 g5 g6 g7
  go_cut [4] (fun v4 wc => ∃ g cap,v4 = .slice (some ⟨g,0,none⟩) (wk.length + 3) cap∧Hid (CwI w wc p 32 [.string s1,.slice (some ⟨b,off,none⟩) n1 k1,.string s3,.int .i64 cm,.int .i64 cx,.int .i64 2,.slice (some ⟨xb,xo,none⟩) n2 k2,.slice a3 n3 k3] (.slice (some ⟨g,0,none⟩) (wk.length + 3) cap) (wk ++ [[112,117,108,115,101],tx (y0,y1),tx (z0,z1)])∧RowL 30 wc pw [.int .i64 2,.slice (some ⟨xb,xo,none⟩) n2 k2,.slice a3 n3 k3]))
  case first =>
   have KT:Kept W5 W5.drew:=(Kept.refl _).drew
   have HI:=hid' (HI.out.kept KT)
   have HV:=hid' (HV.out.kept KT)
   refine wp_region_held_drew (S:=fun w' => w'.cell? ⟨pw,1,none⟩ = some (.slice (some ⟨xb,xo,none⟩) n2 k2)∧w'.cell? ⟨xb,xo,none⟩ = some (.int .i64 y0)∧w'.cell? ⟨xb,xo + 1,none⟩ = some (.int .i64 y1)∧w'.cell? ⟨xb,xo + 2,none⟩ = some (.int .i64 z0)∧w'.cell? ⟨xb,xo + 2 + 1,none⟩ = some (.int .i64 z1)) (by kernel_rfl) (sS.out _ HI.out.kp HV.out) (fun hHeld => ?_)
   generalize W5.drew = Wd at HI HV hHeld ⊢
   clear KT
   refine tk 0 hHeld ?_
   refine tk 1 hHeld ?_
   refine tk 2 hHeld ?_
   refine tk 3 hHeld ?_
   refine tk 4 hHeld ?_
   refine tk 6 hHeld ?_
   refine tk 7 hHeld ?_
   refine tk 8 hHeld ?_
   refine tk 9 hHeld ?_
   refine rdy 5 fun K hK => ?_
   go_simp
   refine (rtx7_any y0 y1 _).mono ?_
   rintro e w6 ⟨hk6,rfl⟩
   obtain ⟨ty,hty⟩:∃ t,t = bs (tx (y0,y1)):=⟨_,rfl⟩
   rw [← hty]
   have Hty:=hid' hty
   have HI:=hid' (HI.out.kept hk6)
   have HV:=hid' (HV.out.kept hk6)
   refine hK.out _ _ (sS.out _ HI.out.kp HV.out) (fun hHeld => ?_)
   clear hK K hk6 hty
   refine rdy 10 fun K hK => ?_
   go_simp
   refine (rtx7_any z0 z1 _).mono ?_
   rintro e w7 ⟨hk7,rfl⟩
   obtain ⟨tz,htz⟩:∃ t,t = bs (tx (z0,z1)):=⟨_,rfl⟩
   rw [← htz]
   have Htz:=hid' htz
   have HI:=hid' (HI.out.kept hk7)
   have HV:=hid' (HV.out.kept hk7)
   refine hK.out _ _ (sS.out _ HI.out.kp HV.out) (fun hHeld => ?_)
   clear hK K hk7 htz
   refine rdy 11 fun K hK => ?_
   go_simp
   have KA:=(Kept.refl w7).alloc (.cells #[.string ⟨#[112,117,108,115,101]⟩,.string ty,.string tz] 9)
   refine hK.out _ _ (sS.out _ (HI.out.kp.trans KA) (HV.out.kept KA)) (fun hHeld => ?_)
   clear hK K
   refine rdy 12 fun K hK => ?_
   refine wp_append_lies _ (.tmp 70) (.tmp 81) 22 rfl (w.heap.size + 1) 9 i0 (.string ByteArray.empty) 1 16 X.und_strs hi hz0 hz1 hz2 rfl (by decide) _ wk.length (strs wk) rfl (by exact (HI.out.kept KA).own) ⟨w7.heap.size,0,none⟩ 3 3 [.string ⟨#[112,117,108,115,101]⟩,.string ty,.string tz] rfl rfl (cell_trip w7 _ _ _ _) (fun u hu => by simp at hu; rcases hu with rfl | rfl | rfl <;> rfl) (by omega) (by have:=HLW.out; unfold maxLen; omega) (by have:=HLW.out; omega) (by have:=HB.out; have:=HI.out.kp.size; have:=HI.out.row.lt; have:=HI.out.le; have:=HP.out; simp; omega) _ rfl ?_
   intro q5 cap5 W6 own5 hg5 hgg5 _
   have HV:=hid' (wv_add HI.out HV.out KA hg5)
   have HI:=hid' (HI.out.add (news:=[[112,117,108,115,101],ty.data.toList,tz.data.toList]) KA own5 rfl hg5)
   refine hK.out _ _ (sS.out _ HI.out.kp HV.out) (fun hHeld => ?_)
   clear hK K own5 hg5 hgg5 KA
   refine rdy 13 fun K hK => ?_
   go_simp
   refine hK.out _ _ hHeld (fun hHeld => ?_)
   clear hK K
   refine dn ?_
   go_wp2_with fail
   go_meet
   case rel =>
    refine ⟨_,_,rfl,?_,HV.out⟩
    rw [← bs_list (tx (y0,y1)),← Hty.out,← bs_list (tx (z0,z1)),← Htz.out]
    exact HI.out
  case rest =>
  obtain ⟨q5,cap5,rfl,HC5⟩:=hcut
  obtain ⟨wh,hwh⟩:∃ l,l = wk ++ [[112,117,108,115,101],tx (y0,y1),tx (z0,z1)]:=⟨_,rfl⟩
  rw [← hwh] at HC5
  have HWH:=hid' hwh
  have HLH:=hid' (show wh.length≤50 by rw [hwh,List.length_append]; have:=HLW.out; simp only [List.length_cons,List.length_nil]; omega)
  clear hwh
  have HI0:Hid (CwI w wc p 32 [.string s1,.slice (some ⟨b,off,none⟩) n1 k1,.string s3,.int .i64 cm,.int .i64 cx,.int .i64 2,.slice (some ⟨xb,xo,none⟩) n2 k2,.slice a3 n3 k3] (.slice (some ⟨q5,0,none⟩) (wk.length + 3) cap5) (wh ++ (css.take 0).map Lib.itoa)∧RowL 30 wc pw [.int .i64 2,.slice (some ⟨xb,xo,none⟩) n2 k2,.slice a3 n3 k3]):=by
   rw [List.take_zero,List.map_nil,List.append_nil]
   exact HC5.out
  clear HI HV HC5 sS
  generalize (Value.slice (some ⟨q5,0,none⟩) (wk.length + 3) cap5) = u0 at HI0 ⊢
  go_wp2_with fail
  go_loopw [4,6] (fun vu vi wr => ∃ j:Nat,j≤5∧vi = .int .i64 (j:Int)∧Hid (CwI w wr p 32 [.string s1,.slice (some ⟨b,off,none⟩) n1 k1,.string s3,.int .i64 cm,.int .i64 cx,.int .i64 2,.slice (some ⟨xb,xo,none⟩) n2 k2,.slice a3 n3 k3] vu (wh ++ (css.take j).map Lib.itoa)∧RowL 30 wr pw [.int .i64 2,.slice (some ⟨xb,xo,none⟩) n2 k2,.slice a3 n3 k3])) (fun _ vi _ => 5 - (intOf vi).toNat)
  case atStart => exact ⟨0,Nat.zero_le _,rfl,HI0.out⟩
  case round =>
   obtain ⟨j,hj,rfl,HJ⟩:=hrel
   clear HI0
   have HI:=hid' HJ.out.1
   have HV:=hid' HJ.out.2
   clear HJ
   have v2:=HV.out.cell 2 (.slice a3 n3 k3)
   by_cases hjt:j < 5
   ·
    have hji:(j:Int) < 5:=by omega
    have hj3:(j:Int) < (n3:Int):=by have:=HVL.out; omega
    have hj3n:j < n3:=by have:=HVL.out; omega
    obtain ⟨sb,so,es,sl,sc⟩:∃ b off,a3 = some ⟨b,off,none⟩∧b < w.heap.size∧∀ j,j < n3→w.cell? ⟨b,off + j,none⟩ = some (.int .i64 (css.getD j 0)):=by
     have hvv:ISl w (.slice a3 n3 k3) css:=HC.out.steps
     obtain ⟨ao',c',hv',hx⟩:=hvv
     simp only [Value.slice.injEq] at hv'
     obtain ⟨rfl,e2,rfl⟩:=hv'
     obtain ⟨b,off,e,h1,h2⟩:=hx (by have:=HLN.out; omega)
     exact ⟨b,off,e,h1,fun j hj => h2 j (by have:=HLN.out; omega)⟩
    subst es
    have q0:=(Below.cell HI.out.kp (p:=⟨sb,so + j,none⟩) sl).trans (sc j hj3n)
    have HTK:=hid' (show (css.take (j + 1)).map Lib.itoa = (css.take j).map Lib.itoa ++ [Lib.itoa (css.getD j 0)] by
     have hl:=HLN.out.2.2
     rw [List.take_succ_eq_append_getElem (by omega),List.map_append]
     simp [List.getElem?_eq_getElem (show j < css.length by omega)])
    have HBD:=hid' (HSB.out (css.getD j 0) (by
     have hl:=HLN.out.2.2
     rw [List.getD_eq_getElem?_getD,List.getElem?_eq_getElem (by omega)]
     exact List.getElem_mem _))
    generalize hy:css.getD j 0 = y at q0 HTK HBD
    obtain ⟨wj,hwj⟩:∃ l,l = wh ++ (css.take j).map Lib.itoa:=⟨_,rfl⟩
    rw [← hwj] at HI
    have HWJ:=hid' hwj
    have HLW:=hid' (show wj.length≤100 by rw [hwj,List.length_append,List.length_map,List.length_take]; have:=HLH.out; omega)
    clear sc hy hwj
    go_wp2_with fail
    refine (decimal7_any y _ HBD.out.1 HBD.out.2).mono ?_
    rintro e w6 ⟨hk6,rfl⟩
    obtain ⟨tv,htv⟩:∃ t,t = bs (Lib.itoa y):=⟨_,rfl⟩
    rw [← htv]
    have Htv:=hid' htv
    have HI:=hid' (HI.out.kept hk6)
    have HV:=hid' (HV.out.kept hk6)
    clear htv hk6 q0 v2
    have KA:=(Kept.refl w6).alloc (.cells #[.string tv] 9)
    go_wp2_with (at_builtin; refine wpList_append_lies _ rfl (.tmp 87) (.tmp 94) 22 rfl (w.heap.size + 1) 9 i0 (.string ByteArray.empty) 1 16 X.und_strs hi hz0 hz1 hz2 rfl (by decide) _ wj.length (strs wj) rfl (by exact (HI.out.kept KA).own) ⟨w6.heap.size,0,none⟩ 1 1 [.string tv] rfl rfl (X.cell_new w6 _ _) (fun u hu => by simp at hu; subst hu; rfl) (by omega) (by have:=HLW.out; unfold maxLen; omega) (by have:=HLW.out; omega) (by have:=HB.out; have:=HI.out.kp.size; have:=HI.out.row.lt; have:=HI.out.le; simp; omega) _ rfl ?_)
    intro q5 cap5 W7 own5 hg5 hgg5 _
    have HV:=hid' (wv_add HI.out HV.out KA hg5)
    have HI:=hid' (HI.out.add (news:=[tv.data.toList]) KA own5 rfl hg5)
    clear own5 hg5 hgg5 KA
    go_wp2_with fail
    go_roundw
    case rel =>
     refine ⟨j + 1,by omega,by go_num,?_⟩
     rw [HTK.out,← List.append_assoc,← HWJ.out,← bs_list (Lib.itoa y),← Htv.out]
     exact ⟨HI.out,HV.out⟩
    case measure => show 5 - ((j:Int) + 1).toNat < 5 - (j:Int).toNat; omega
   ·
    have hji:¬ (j:Int) < 5:=by omega
    have HF:=hid' (show OwnS w.heap.size wr u4 R by
     rw [HRR.out,HWW.out,← List.append_assoc,← HWH.out]
     have:=own_mono HI.out.own (Nat.le_succ w.heap.size)
     rw [List.take_of_length_le (by rw [← HLN.out.2.2]; have:=HVL.out; omega)] at this
     exact this)
    go_wp2_with fail
    go_ret2
    exact ⟨HI.out.kp,_,rfl,HF.out⟩
 ·
  have hvl:n3 = n2∧1≤n2∧n2≤16:=by have:=(okW_fit HOW.out).1; have:=HLN.out; omega
  have HVL:=hid' hvl
  have hn16:n2≤16:=hvl.2.2
  have HSB:=hid' ((okW_fit HOW.out).2.2)
  have HWW:=hid' (show wwords 3 cvs css = [112,119,108] :: pwlW cvs css by
   unfold wwords
   rw [if_neg (by rw [HOW.out]; decide)]
   rfl)
  obtain ⟨xb,xo,ex,xl,xc⟩:∃ b off,a2 = some ⟨b,off,none⟩∧b < w.heap.size∧∀ j,j < n2→w.cell? ⟨b,off + j * 2,none⟩ = some (.int .i64 (cvs.getD j (0,0)).1)∧w.cell? ⟨b,off + j * 2 + 1,none⟩ = some (.int .i64 (cvs.getD j (0,0)).2):=by
   have hvv:NSl w (.slice a2 n2 k2) cvs:=HC.out.vals
   obtain ⟨ao',c',hv',hx⟩:=hvv
   simp only [Value.slice.injEq] at hv'
   obtain ⟨rfl,e2,rfl⟩:=hv'
   obtain ⟨b,off,e,h1,h2⟩:=hx (by have:=HLN.out; omega)
   exact ⟨b,off,e,h1,fun j hj => h2 j (by have:=HLN.out; omega)⟩
  obtain ⟨sb,so,es,sl,sc⟩:∃ b off,a3 = some ⟨b,off,none⟩∧b < w.heap.size∧∀ j,j < n3→w.cell? ⟨b,off + j,none⟩ = some (.int .i64 (css.getD j 0)):=by
   have hvv:ISl w (.slice a3 n3 k3) css:=HC.out.steps
   obtain ⟨ao',c',hv',hx⟩:=hvv
   simp only [Value.slice.injEq] at hv'
   obtain ⟨rfl,e2,rfl⟩:=hv'
   obtain ⟨b,off,e,h1,h2⟩:=hx (by have:=HLN.out; omega)
   exact ⟨b,off,e,h1,fun j hj => h2 j (by have:=HLN.out; omega)⟩
  subst ex es
  have HXC:=hid' (And.intro xc sc)
  have v0:=HV.out.cell 0 (.int .i64 3)
  clear xc sc hvl
  go_upto_region 31 with fail
  clear v0 f0 f1 f2 f3 f4 f5 f6 f7 g0 g1 g2 g3 g4 g5 g6 g7
  have KA:=(Kept.refl W5).alloc (.cells #[.string ⟨#[112,119,108]⟩] 9)
  go_wp2_with (at_builtin; refine wpList_append_lies _ rfl (.tmp 99) (.tmp 100) 22 rfl (w.heap.size + 1) 9 i0 (.string ByteArray.empty) 1 16 X.und_strs hi hz0 hz1 hz2 rfl (by decide) _ wk.length (strs wk) rfl (by exact (HI.out.kept KA).own) ⟨W5.heap.size,0,none⟩ 1 1 [.string ⟨#[112,119,108]⟩] rfl rfl (X.cell_new W5 _ _) (fun u hu => by simp at hu; subst hu; rfl) (by omega) (by have:=HLW.out; unfold maxLen; omega) (by have:=HLW.out; omega) (by have:=HB.out; have:=HI.out.kp.size; have:=HI.out.row.lt; have:=HI.out.le; simp; omega) _ rfl ?_)
  intro q5 cap5 W6 own5 hg5 hgg5 _
  have HV:=hid' (wv_add HI.out HV.out KA hg5)
  have HI:=hid' (HI.out.add (news:=[[112,119,108]]) KA own5 rfl hg5)
  clear own5 hg5 hgg5 KA
  have HI0:Hid (CwI w W6 p 32 [.string s1,.slice (some ⟨b,off,none⟩) n1 k1,.string s3,.int .i64 cm,.int .i64 cx,.int .i64 3,.slice (some ⟨xb,xo,none⟩) n2 k2,.slice (some ⟨sb,so,none⟩) n3 k3] (.slice (some ⟨q5,0,none⟩) (wk.length + 1) cap5) (wk ++ [[112,119,108]] ++ pwlW (cvs.take 0) (css.take 0))∧RowL 30 W6 pw [.int .i64 3,.slice (some ⟨xb,xo,none⟩) n2 k2,.slice (some ⟨sb,so,none⟩) n3 k3]):=by
   rw [List.take_zero,pwlW,List.append_nil]
   ·
    exact ⟨HI.out,HV.out⟩
   ·
    intro _ _ _ _ h; cases h
  clear HI HV
  generalize (Value.slice (some ⟨q5,0,none⟩) (wk.length + 1) cap5) = u0 at HI0 ⊢
  go_wp2_with fail
  go_loopw [4,7] (fun vu vi wr => ∃ j:Nat,j≤n2∧vi = .int .i64 (j:Int)∧Hid (CwI w wr p 32 [.string s1,.slice (some ⟨b,off,none⟩) n1 k1,.string s3,.int .i64 cm,.int .i64 cx,.int .i64 3,.slice (some ⟨xb,xo,none⟩) n2 k2,.slice (some ⟨sb,so,none⟩) n3 k3] vu (wk ++ [[112,119,108]] ++ pwlW (cvs.take j) (css.take j))∧RowL 30 wr pw [.int .i64 3,.slice (some ⟨xb,xo,none⟩) n2 k2,.slice (some ⟨sb,so,none⟩) n3 k3])) (fun _ vi _ => n2 - (intOf vi).toNat)
  case atStart => exact ⟨0,Nat.zero_le _,rfl,HI0.out⟩
  case round =>
   obtain ⟨j,hj,rfl,HJ⟩:=hrel
   clear HI0
   have HI:=hid' HJ.out.1
   have HV:=hid' HJ.out.2
   clear HJ
   have v1:=HV.out.cell 1 (.slice (some ⟨xb,xo,none⟩) n2 k2)
   by_cases hjt:j < n2
   ·
    have hji:(j:Int) < (n2:Int):=by omega
    have hj3n:j < n3:=by have:=HVL.out; omega
    have hj3:(j:Int) < (n3:Int):=by omega
    obtain ⟨q0,q1⟩:=HXC.out.1 j hjt
    have q2:=HXC.out.2 j hj3n
    have HTK:=hid' (pwlW_take cvs css j (by have:=HLN.out; omega) (by have:=HLN.out; omega))
    have HBD:=hid' (HSB.out (css.getD j 0) (by
     have hl:=HLN.out.2.2
     rw [List.getD_eq_getElem?_getD,List.getElem?_eq_getElem (by omega)]
     exact List.getElem_mem _))
    generalize hy:cvs.getD j (0,0) = y at q0 q1 HTK
    generalize hz:css.getD j 0 = z at q2 HTK HBD
    obtain ⟨y0,y1⟩:=y
    simp only at q0 q1
    have sS:=hid' (fun (V:World) (K:Kept w V) (KV:RowL 30 V pw [.int .i64 3,.slice (some ⟨xb,xo,none⟩) n2 k2,.slice (some ⟨sb,so,none⟩) n3 k3]) => And.intro (KV.cell 1 (.slice (some ⟨xb,xo,none⟩) n2 k2)) (And.intro (KV.cell 2 (.slice (some ⟨sb,so,none⟩) n3 k3)) (And.intro ((Below.cell K (p:=⟨xb,xo + j * 2,none⟩) xl).trans q0) (And.intro ((Below.cell K (p:=⟨xb,xo + j * 2 + 1,none⟩) xl).trans q1) ((Below.cell K (p:=⟨sb,so + j,none⟩) sl).trans q2)))))
    obtain ⟨wj,hwj⟩:∃ l,l = wk ++ [[112,119,108]] ++ pwlW (cvs.take j) (css.take j):=⟨_,rfl⟩
    rw [← hwj] at HI
    have HWJ:=hid' hwj
    have HLW:=hid' (show wj.length≤100 by
     have h1:=pwlW_len (cvs.take j) (css.take j)
     rw [List.length_take] at h1
     rw [hwj,List.length_append,List.length_append]
     have:=HLW.out
     have:=HVL.out
     simp only [List.length_cons,List.length_nil]
     omega)
    clear hy hz hwj q0 q1 q2
    go_upto_region 35 with fail
    clear v1
    have KT:Kept wr wr.drew:=(Kept.refl _).drew
    have HI:=hid' (HI.out.kept KT)
    have HV:=hid' (HV.out.kept KT)
    refine wp_region_held_drew (S:=fun w' => w'.cell? ⟨pw,1,none⟩ = some (.slice (some ⟨xb,xo,none⟩) n2 k2)∧w'.cell? ⟨pw,2,none⟩ = some (.slice (some ⟨sb,so,none⟩) n3 k3)∧w'.cell? ⟨xb,xo + j * 2,none⟩ = some (.int .i64 y0)∧w'.cell? ⟨xb,xo + j * 2 + 1,none⟩ = some (.int .i64 y1)∧w'.cell? ⟨sb,so + j,none⟩ = some (.int .i64 z)) (by kernel_rfl) (sS.out _ HI.out.kp HV.out) (fun hHeld => ?_)
    generalize wr.drew = Wd at HI HV hHeld ⊢
    clear KT
    refine tk 0 hHeld ?_
    refine tk 1 hHeld ?_
    refine tk 2 hHeld ?_
    refine tk 3 hHeld ?_
    refine tk 4 hHeld ?_
    refine tk 5 hHeld ?_
    refine tk 7 hHeld ?_
    refine tk 8 hHeld ?_
    refine tk 9 hHeld ?_
    refine tk 10 hHeld ?_
    refine tk 11 hHeld ?_
    refine rdy 6 fun K hK => ?_
    go_simp
    refine (decimal7_any z _ HBD.out.1 HBD.out.2).mono ?_
    rintro e w6 ⟨hk6,rfl⟩
    obtain ⟨ty,hty⟩:∃ t,t = bs (Lib.itoa z):=⟨_,rfl⟩
    rw [← hty]
    have Hty:=hid' hty
    have HI:=hid' (HI.out.kept hk6)
    have HV:=hid' (HV.out.kept hk6)
    refine hK.out _ _ (sS.out _ HI.out.kp HV.out) (fun hHeld => ?_)
    clear hK K hk6 hty
    refine rdy 12 fun K hK => ?_
    go_simp
    refine (rtx7_any y0 y1 _).mono ?_
    rintro e w7 ⟨hk7,rfl⟩
    obtain ⟨tz,htz⟩:∃ t,t = bs (tx (y0,y1)):=⟨_,rfl⟩
    rw [← htz]
    have Htz:=hid' htz
    have HI:=hid' (HI.out.kept hk7)
    have HV:=hid' (HV.out.kept hk7)
    refine hK.out _ _ (sS.out _ HI.out.kp HV.out) (fun hHeld => ?_)
    clear hK K hk7 htz
    refine rdy 13 fun K hK => ?_
    go_simp
    have KA:=(Kept.refl w7).alloc (.cells #[.string ty,.string tz] 9)
    refine hK.out _ _ (sS.out _ (HI.out.kp.trans KA) (HV.out.kept KA)) (fun hHeld => ?_)
    clear hK K
    refine rdy 14 fun K hK => ?_
    refine wp_append_lies _ (.tmp 109) (.tmp 122) 22 rfl (w.heap.size + 1) 9 i0 (.string ByteArray.empty) 1 16 X.und_strs hi hz0 hz1 hz2 rfl (by decide) _ wj.length (strs wj) rfl (by exact (HI.out.kept KA).own) ⟨w7.heap.size,0,none⟩ 2 2 [.string ty,.string tz] rfl rfl (cell_pair w7 _ _ _) (fun u hu => by simp at hu; rcases hu with rfl | rfl <;> rfl) (by omega) (by have:=HLW.out; unfold maxLen; omega) (by have:=HLW.out; omega) (by have:=HB.out; have:=HI.out.kp.size; have:=HI.out.row.lt; have:=HI.out.le; have:=HP.out; simp; omega) _ rfl ?_
    intro q5 cap5 W7 own5 hg5 hgg5 _
    have HV:=hid' (wv_add HI.out HV.out KA hg5)
    have HI:=hid' (HI.out.add (news:=[ty.data.toList,tz.data.toList]) KA own5 rfl hg5)
    refine hK.out _ _ (sS.out _ HI.out.kp HV.out) (fun hHeld => ?_)
    clear hK K own5 hg5 hgg5 KA
    refine rdy 15 fun K hK => ?_
    go_simp
    refine hK.out _ _ hHeld (fun hHeld => ?_)
    clear hK K
    refine dn ?_
    go_wp2_with fail
    go_roundw
    case rel =>
     refine ⟨j + 1,by omega,by go_num,?_⟩
     rw [HTK.out,← List.append_assoc,← HWJ.out,← bs_list (tx (y0,y1)),← Htz.out,← bs_list (Lib.itoa z),← Hty.out]
     exact ⟨HI.out,HV.out⟩
    case measure => show n2 - ((j:Int) + 1).toNat < n2 - (j:Int).toNat; omega
   ·
    have hji:¬ (j:Int) < (n2:Int):=by omega
    have HF:=hid' (show OwnS w.heap.size wr u4 R by
     rw [HRR.out,HWW.out]
     have:=own_mono HI.out.own (Nat.le_succ w.heap.size)
     rw [List.take_of_length_le (by rw [← HLN.out.2.1]; omega),List.take_of_length_le (by rw [← HLN.out.2.2]; have:=HVL.out; omega),List.append_assoc] at this
     exact this)
    go_wp2_with fail
    go_ret2
    exact ⟨HI.out.kp,_,rfl,HF.out⟩
 ·
  have HWW:=hid' (show wwords 4 cvs css = [116,97,98,108,101] :: cvs.map tx by
   unfold wwords
   rw [if_neg (by rw [HOW.out]; decide)]
   show [116,97,98,108,101] :: obo cvs css = _
   have h2:css.length = 0:=by have:=(okW_fit HOW.out).1; omega
   obtain rfl:=List.eq_nil_of_length_eq_zero h2
   simp [obo])
  have hn16:n2≤16:=by have:=(okW_fit HOW.out).1; have:=HLN.out; omega
  have v0:=HV.out.cell 0 (.int .i64 4)
  go_upto_region 37 with fail
  clear v0 f0 f1 f2 f3 f4 f5 f6 f7 g0 g1 g2 g3 g4 g5 g6 g7
  have KA:=(Kept.refl W5).alloc (.cells #[.string ⟨#[116,97,98,108,101]⟩] 9)
  go_wp2_with (at_builtin; refine wpList_append_lies _ rfl (.tmp 125) (.tmp 126) 22 rfl (w.heap.size + 1) 9 i0 (.string ByteArray.empty) 1 16 X.und_strs hi hz0 hz1 hz2 rfl (by decide) _ wk.length (strs wk) rfl (by exact (HI.out.kept KA).own) ⟨W5.heap.size,0,none⟩ 1 1 [.string ⟨#[116,97,98,108,101]⟩] rfl rfl (X.cell_new W5 _ _) (fun u hu => by simp at hu; subst hu; rfl) (by omega) (by have:=HLW.out; unfold maxLen; omega) (by have:=HLW.out; omega) (by have:=HB.out; have:=HI.out.kp.size; have:=HI.out.row.lt; have:=HI.out.le; simp; omega) _ rfl ?_)
  intro q5 cap5 W6 own5 hg5 hgg5 _
  have HV:=hid' (wv_add HI.out HV.out KA hg5)
  have HI:=hid' (HI.out.add (news:=[[116,97,98,108,101]]) KA own5 rfl hg5)
  clear own5 hg5 hgg5 KA
  have HI0:Hid (CwI w W6 p 32 [.string s1,.slice (some ⟨b,off,none⟩) n1 k1,.string s3,.int .i64 cm,.int .i64 cx,.int .i64 4,.slice a2 n2 k2,.slice a3 n3 k3] (.slice (some ⟨q5,0,none⟩) (wk.length + 1) cap5) (wk ++ [[116,97,98,108,101]] ++ (cvs.take 0).map tx)∧RowL 30 W6 pw [.int .i64 4,.slice a2 n2 k2,.slice a3 n3 k3]):=by
   rw [List.take_zero,List.map_nil,List.append_nil]
   exact ⟨HI.out,HV.out⟩
  clear HI HV
  generalize (Value.slice (some ⟨q5,0,none⟩) (wk.length + 1) cap5) = u0 at HI0 ⊢
  go_wp2_with fail
  go_loopw [4,8] (fun vu vi wr => ∃ j:Nat,j≤n2∧vi = .int .i64 (j:Int)∧Hid (CwI w wr p 32 [.string s1,.slice (some ⟨b,off,none⟩) n1 k1,.string s3,.int .i64 cm,.int .i64 cx,.int .i64 4,.slice a2 n2 k2,.slice a3 n3 k3] vu (wk ++ [[116,97,98,108,101]] ++ (cvs.take j).map tx)∧RowL 30 wr pw [.int .i64 4,.slice a2 n2 k2,.slice a3 n3 k3])) (fun _ vi _ => n2 - (intOf vi).toNat)
  case atStart => exact ⟨0,Nat.zero_le _,rfl,HI0.out⟩
  case round =>
   obtain ⟨j,hj,rfl,HJ⟩:=hrel
   clear HI0
   have HI:=hid' HJ.out.1
   have HV:=hid' HJ.out.2
   clear HJ
   have v1:=HV.out.cell 1 (.slice a2 n2 k2)
   by_cases hjt:j < n2
   ·
    have hji:(j:Int) < (n2:Int):=by omega
    obtain ⟨xb,xo,ex,xl,xc⟩:∃ b off,a2 = some ⟨b,off,none⟩∧b < w.heap.size∧∀ j,j < n2→w.cell? ⟨b,off + j * 2,none⟩ = some (.int .i64 (cvs.getD j (0,0)).1)∧w.cell? ⟨b,off + j * 2 + 1,none⟩ = some (.int .i64 (cvs.getD j (0,0)).2):=by
     have hvv:NSl w (.slice a2 n2 k2) cvs:=HC.out.vals
     obtain ⟨ao',c',hv',hx⟩:=hvv
     simp only [Value.slice.injEq] at hv'
     obtain ⟨rfl,e2,rfl⟩:=hv'
     obtain ⟨b,off,e,h1,h2⟩:=hx (by have:=HLN.out; omega)
     exact ⟨b,off,e,h1,fun j hj => h2 j (by have:=HLN.out; omega)⟩
    subst ex
    obtain ⟨q0,q1⟩:=xc j hjt
    have HTK:=hid' (show (cvs.take (j + 1)).map tx = (cvs.take j).map tx ++ [tx (cvs.getD j (0,0))] by
     have hl:=HLN.out.2.1
     rw [List.take_succ_eq_append_getElem (by omega),List.map_append]
     simp [List.getElem?_eq_getElem (show j < cvs.length by omega)])
    generalize hy:cvs.getD j (0,0) = y at q0 q1 HTK
    obtain ⟨y0,y1⟩:=y
    simp only at q0 q1
    have q0:=(Below.cell HI.out.kp (p:=⟨xb,xo + j * 2,none⟩) xl).trans q0
    have q1:=(Below.cell HI.out.kp (p:=⟨xb,xo + j * 2 + 1,none⟩) xl).trans q1
    obtain ⟨wj,hwj⟩:∃ l,l = wk ++ [[116,97,98,108,101]] ++ (cvs.take j).map tx:=⟨_,rfl⟩
    rw [← hwj] at HI
    have HWJ:=hid' hwj
    have HLW:=hid' (show wj.length≤100 by rw [hwj,List.length_append,List.length_append,List.length_map,List.length_take]; have:=HLW.out; simp only [List.length_cons,List.length_nil]; omega)
    clear xc hy hwj
    go_wp2_with fail
    refine (rtx7_any y0 y1 _).mono ?_
    rintro e w6 ⟨hk6,rfl⟩
    obtain ⟨tv,htv⟩:∃ t,t = bs (tx (y0,y1)):=⟨_,rfl⟩
    rw [← htv]
    have Htv:=hid' htv
    have HI:=hid' (HI.out.kept hk6)
    have HV:=hid' (HV.out.kept hk6)
    clear htv hk6 q0 q1 v1
    have KA:=(Kept.refl w6).alloc (.cells #[.string tv] 9)
    go_wp2_with (at_builtin; refine wpList_append_lies _ rfl (.tmp 135) (.tmp 142) 22 rfl (w.heap.size + 1) 9 i0 (.string ByteArray.empty) 1 16 X.und_strs hi hz0 hz1 hz2 rfl (by decide) _ wj.length (strs wj) rfl (by exact (HI.out.kept KA).own) ⟨w6.heap.size,0,none⟩ 1 1 [.string tv] rfl rfl (X.cell_new w6 _ _) (fun u hu => by simp at hu; subst hu; rfl) (by omega) (by have:=HLW.out; unfold maxLen; omega) (by have:=HLW.out; omega) (by have:=HB.out; have:=HI.out.kp.size; have:=HI.out.row.lt; have:=HI.out.le; simp; omega) _ rfl ?_)
    intro q5 cap5 W7 own5 hg5 hgg5 _
    have HV:=hid' (wv_add HI.out HV.out KA hg5)
    have HI:=hid' (HI.out.add (news:=[tv.data.toList]) KA own5 rfl hg5)
    clear own5 hg5 hgg5 KA
    go_wp2_with fail
    go_roundw
    case rel =>
     refine ⟨j + 1,by omega,by go_num,?_⟩
     rw [HTK.out,← List.append_assoc,← HWJ.out,← bs_list (tx (y0,y1)),← Htv.out]
     exact ⟨HI.out,HV.out⟩
    case measure => show n2 - ((j:Int) + 1).toNat < n2 - (j:Int).toNat; omega
   ·
    have hji:¬ (j:Int) < (n2:Int):=by omega
    have HF:=hid' (show OwnS w.heap.size wr u4 R by
     rw [HRR.out,HWW.out]
     have:=own_mono HI.out.own (Nat.le_succ w.heap.size)
     rw [List.take_of_length_le (by rw [← HLN.out.2.1]; omega),List.append_assoc] at this
     exact this)
    go_wp2_with fail
    go_ret2
    exact ⟨HI.out.kp,_,rfl,HF.out⟩
end V
end Go.Proofs.YtembglnonhlnkaaGreatDoor

namespace Go.Proofs.YtembglnonhlnkaaGreatDoor
open Go.RowKit
namespace V
open Q (hid' parseOf Lett ErrV Tab okN textOf)
open X (bs OwnS RS strs bs_list bs_size)
set_option maxRecDepth 100000 in
set_option maxHeartbeats 8000000 in
theorem rwrite_any (a1 a2 a3:Option Addr) (n1 k1 n2 k2 n3 k3:Nat) (c:Cd) (w:World) (hc:CdR w a1 n1 k1 a2 n2 k2 a3 n3 k3 c) (hs:c.name.length≤9223372036854775807) (hrs:c.ref.length≤9223372036854775807) (hnd:∀ x ∈ c.nodes,x.length≤9223372036854775807) (hn:n1≤1000000000000000000∧n2≤1000000000000000000∧n3≤1000000000000000000) :
  Calls Tryz.prog 23 #[cdV c (.slice a1 n1 k1) (.slice a2 n2 k2) (.slice a3 n3 k3)] w fun e w' => Kept w w'∧WrIs w.heap.size w' e (writeC c):=by
 cases hb:rightB c with
 | false =>
  have hnone:writeC c = none:=by
   cases hq:writeC c with
   | none => rfl
   | some l =>
    have:=(right_iff c).2 (write_right hq).1
    rw [hb] at this
    cases this
  rw [hnone]
  have hri:=fun V (K:Kept w V) => right_any a1 a2 a3 n1 k1 n2 k2 n3 k3 c V (hc.kept K) hs hrs hnd hn
  rw [hb] at hri
  clear hb hnone hc hs hrs hnd hn
  obtain ⟨cn,cnd,cr,⟨cm,cx⟩,ckd,cvs,css⟩:=c
  unfold cdV at hri ⊢
  simp only at hri ⊢
  generalize bs cn = s1 at hri ⊢
  generalize bs cr = s3 at hri ⊢
  go_enter Tryz.func23,Tryz.ntmps23
  go_wp2_with fail
  have hK:=(Kept.refl w).alloc (.cells #[.string s1,.slice a1 n1 k1,.string s3,.int .i64 cm,.int .i64 cx,.int .i64 ckd,.slice a2 n2 k2,.slice a3 n3 k3] 32)
  generalize w.alloc (.cells #[.string s1,.slice a1 n1 k1,.string s3,.int .i64 cm,.int .i64 cx,.int .i64 ckd,.slice a2 n2 k2,.slice a3 n3 k3] 32) = W0 at hK ⊢
  refine (hri _ hK).mono ?_
  rintro e w1 ⟨hk1,rfl⟩
  have HK:=hid' (hK.trans hk1)
  clear hri hK hk1
  go_wp2_with fail
  go_ret2
  exact ⟨HK.out,rfl⟩
 | true =>
  have hR:=(right_iff c).1 hb
  rw [right_write hR]
  have hk:=dev_kind hR.dev
  unfold kindsL at hk
  simp only [List.mem_cons,List.not_mem_nil,or_false] at hk
  rcases hk with e | e | e | e | e | e | e | e | e | e | e | e | e
  ·
   exact rwr_l114 a1 a2 a3 n1 k1 n2 k2 n3 k3 c w hc hR e
  ·
   exact rwr_l99 a1 a2 a3 n1 k1 n2 k2 n3 k3 c w hc hR e
  ·
   exact rwr_l108 a1 a2 a3 n1 k1 n2 k2 n3 k3 c w hc hR e
  ·
   exact rwr_l118 a1 a2 a3 n1 k1 n2 k2 n3 k3 c w hc hR e
  ·
   exact rwr_l105 a1 a2 a3 n1 k1 n2 k2 n3 k3 c w hc hR e
  ·
   exact rwr_l101 a1 a2 a3 n1 k1 n2 k2 n3 k3 c w hc hR e
  ·
   exact rwr_l103 a1 a2 a3 n1 k1 n2 k2 n3 k3 c w hc hR e
  ·
   exact rwr_l102 a1 a2 a3 n1 k1 n2 k2 n3 k3 c w hc hR e
  ·
   exact rwr_l104 a1 a2 a3 n1 k1 n2 k2 n3 k3 c w hc hR e
  ·
   exact rwr_l116 a1 a2 a3 n1 k1 n2 k2 n3 k3 c w hc hR e
  ·
   exact rwr_l100 a1 a2 a3 n1 k1 n2 k2 n3 k3 c w hc hR e
  ·
   exact rwr_l115 a1 a2 a3 n1 k1 n2 k2 n3 k3 c w hc hR e
  ·
   exact rwr_l120 a1 a2 a3 n1 k1 n2 k2 n3 k3 c w hc hR e
end V
end Go.Proofs.YtembglnonhlnkaaGreatDoor

namespace Go.Proofs.YtembglnonhlnkaaGreatDoor
open Go.RowKit
namespace V
open Q (hid' parseOf Lett ErrV Tab okN textOf)
open X (bs OwnS RS strs bs_list bs_size)
def wrL (o:Option (List (List UInt8))):List (List UInt8):=o.getD []
def wrC (o:Option (List (List UInt8))):Int:=if o.isSome = true then 0 else 70
theorem wr_form {B:Nat} {w:World} {e:Ending} {o:Option (List (List UInt8))} (h:WrIs B w e o):∃ a c,e = .returned (.tuple #[.slice a (wrL o).length c,.int .i64 (wrC o)])∧RS w (.slice a (wrL o).length c) (wrL o):=by
 cases o with
 | none =>
  obtain rfl:e = _:=h
  exact ⟨none,0,rfl,none,0,rfl,fun h => absurd h (by decide)⟩
 | some l =>
  obtain ⟨u,rfl,o⟩:=h
  obtain ⟨a,c,rfl⟩:=o.shape
  exact ⟨a,c,rfl,o.rs⟩
theorem wr_len (c:Cd):(wrL (writeC c)).length≤1000:=by
 cases h:writeC c with
 | none => exact Nat.zero_le _
 | some l =>
  obtain ⟨hR,rfl⟩:=write_right h
  have h1:=(right_lens hR).1
  have h2:=wwords_len c.kind c.vals c.steps
  show (cwords c).length≤1000
  unfold cwords
  rw [List.length_append,List.length_append,List.length_append,List.length_append,List.length_singleton]
  split <;> split <;> split <;> simp only [List.length_cons,List.length_nil] <;> omega
set_option maxRecDepth 100000 in
set_option maxHeartbeats 8000000 in
theorem writes7_any (a1 a2 a3:Option Addr) (n1 k1 n2 k2 n3 k3:Nat) (c:Cd) (s:ByteArray) (w:World) (hL:Lett w) (hE:ErrV w) (hT:Tab w) (hc:CdR w a1 n1 k1 a2 n2 k2 a3 n3 k3 c) (hs:c.name.length≤9223372036854775807) (hrs:c.ref.length≤9223372036854775807) (hnd:∀ x ∈ c.nodes,x.length≤9223372036854775807) (hl:(n1 + 256) * 16≤140737488355328) (hl2:n2≤1000000000000000000) (hl3:n3≤1000000000000000000) (hss:s.size≤9223372036854775807) :
  Calls Tryz.prog 5 #[cdV c (.slice a1 n1 k1) (.slice a2 n2 k2) (.slice a3 n3 k3),.string s] w fun e w' => Kept w w'∧e = .returned (.bool true):=by
 have HAW:=hid' (fun V (K:Kept w V) => awake7_any V (hL.kept K) (hE.kept K) (hT.kept K))
 have HLE:=hid' (fun V (K:Kept w V) => lent7_any a1 n1 k1 c.nodes V (hc.nodes.kept K) (by omega))
 have hln:n1 = c.nodes.length:=rs_len hc.nodes
 have HW1:=hid' (fun V (K:Kept w V) g cap (hr:RS V (.slice (some ⟨g,0,none⟩) n1 cap) c.nodes) => write_any (some ⟨g,0,none⟩) a2 a3 n1 cap n2 k2 n3 k3 c V (hL.kept K) (hE.kept K) (hT.kept K) ⟨hr,hc.vals.kept K,hc.steps.kept K⟩ (by omega) (cwords_sz hs hrs hnd) hs)
 have HW2:=hid' (fun V (K:Kept w V) => rwrite_any a1 a2 a3 n1 k1 n2 k2 n3 k3 c V (hc.kept K) hs hrs hnd ⟨by omega,hl2,hl3⟩)
 have HWH:=hid' (fun V (K:Kept w V) B v (hv:LentW B V v c.nodes) => whole7_any B v a1 n1 k1 c.nodes V hv (hc.nodes.kept K) (by omega))
 have HWL:=hid' (wr_len c)
 have HN1:=hid' (fun V => cname_any s V hss)
 have HN2:=hid' (fun V => rname_any s V hss)
 have HD1:=hid' (fun V => cdev_any s V hss)
 have HD2:=hid' (fun V => rdev_any s V hss)
 generalize okName s.data.toList = bn at HN1 HN2
 generalize devB s.data.toList = bd at HD1 HD2
 generalize hoo:writeC c = oo at HW1 HW2 HWL
 obtain ⟨cn,cnd,cr,⟨cm,cx⟩,ckd,cvs,css⟩:=c
 unfold cdV at HW1 HW2 ⊢
 simp only at HW1 HW2 HLE HWH hln ⊢
 have HLN:=hid' hln
 generalize bs cn = s1 at HW1 HW2 ⊢
 generalize bs cr = s3 at HW1 HW2 ⊢
 clear hL hE hT hc hs hrs hnd hln hoo hss
 go_enter Tryz.func5,Tryz.ntmps5
 go_wp2_with fail
 have hK:=(Kept.refl w).alloc (.cells #[.string s1,.slice a1 n1 k1,.string s3,.int .i64 cm,.int .i64 cx,.int .i64 ckd,.slice a2 n2 k2,.slice a3 n3 k3] 32)
 have hA:=RowL.alloc 32 w [.string s1,.slice a1 n1 k1,.string s3,.int .i64 cm,.int .i64 cx,.int .i64 ckd,.slice a2 n2 k2,.slice a3 n3 k3]
 generalize w.alloc (.cells #[.string s1,.slice a1 n1 k1,.string s3,.int .i64 cm,.int .i64 cx,.int .i64 ckd,.slice a2 n2 k2,.slice a3 n3 k3] 32) = W0 at hK hA ⊢
 obtain ⟨p,hp⟩:∃ q,q = w.heap.size:=⟨_,rfl⟩
 rw [← hp] at hA ⊢
 have HP:=hid' hp
 clear hp
 refine (HAW.out _ hK).mono ?_
 rintro e w1 ⟨hk1,rfl⟩
 have HK:=hid' (hK.trans hk1)
 have HA:=hid' (hA.kept hk1)
 clear hK hA hk1
 have hq:=HA.out.lt
 have kI:=(Kept.refl w1).alloc (.cells #[.string s1,.slice a1 n1 k1,.string s3,.int .i64 cm,.int .i64 cx,.int .i64 ckd,.slice a2 n2 k2,.slice a3 n3 k3] 32)
 have f0:=HA.out.cell 0 (.string s1)
 have f1:=HA.out.cell 1 (.slice a1 n1 k1)
 have f2:=HA.out.cell 2 (.string s3)
 have f3:=HA.out.cell 3 (.int .i64 cm)
 have f4:=HA.out.cell 4 (.int .i64 cx)
 have f5:=HA.out.cell 5 (.int .i64 ckd)
 have f6:=HA.out.cell 6 (.slice a2 n2 k2)
 have f7:=HA.out.cell 7 (.slice a3 n3 k3)
 have g0:=(HA.out.kept kI).cell 0 (.string s1)
 have g1:=(HA.out.kept kI).cell 1 (.slice a1 n1 k1)
 have g2:=(HA.out.kept kI).cell 2 (.string s3)
 have g3:=(HA.out.kept kI).cell 3 (.int .i64 cm)
 have g4:=(HA.out.kept kI).cell 4 (.int .i64 cx)
 have g5:=(HA.out.kept kI).cell 5 (.int .i64 ckd)
 have g6:=(HA.out.kept kI).cell 6 (.slice a2 n2 k2)
 have g7:=(HA.out.kept kI).cell 7 (.slice a3 n3 k3)
 go_wp2_with fail
 have hI:=RowL.alloc 32 w1 [.string s1,.slice a1 n1 k1,.string s3,.int .i64 cm,.int .i64 cx,.int .i64 ckd,.slice a2 n2 k2,.slice a3 n3 k3]
 have HK:=hid' (HK.out.trans kI)
 have HA:=hid' (HA.out.kept kI)
 clear f0 f1 f2 f3 f4 f5 f6 f7 g0 g1 g2 g3 g4 g5 g6 g7
 generalize w1.alloc (.cells #[.string s1,.slice a1 n1 k1,.string s3,.int .i64 cm,.int .i64 cx,.int .i64 ckd,.slice a2 n2 k2,.slice a3 n3 k3] 32) = W1 at HK HA hI ⊢
 obtain ⟨q,hqe⟩:∃ q,q = w1.heap.size:=⟨_,rfl⟩
 rw [← hqe] at hI hq ⊢
 have HQ:=hid' (show w.heap.size≤q by have:=HP.out; omega)
 clear hqe kI
 have hIl:=hI.lt
 refine (HLE.out _ HK.out).mono ?_
 rintro e w2 ⟨hk2,v,rfl,hv⟩
 have HK:=hid' (HK.out.trans hk2)
 have HA:=hid' (HA.out.kept hk2)
 have hI:=hI.kept hk2
 obtain ⟨g,cap,rfl,ho⟩:=hv
 have hgq:g ≠ q:=by
  obtain ⟨_,_,e1,hgB,_⟩:=ho.read (by simp)
  simp only [Value.slice.injEq,Option.some.injEq,Addr.mk.injEq] at e1
  have h8:W1.heap.size≤g:=by rw [e1.1.1]; exact hgB
  omega
 have HHO:=hid' ho
 rw [← HLN.out]
 have hI3:=hI.set 1 (.slice (some ⟨g,0,none⟩) n1 cap)
 have HA3:=hid' (HA.out.far (q:=q) (show p ≠ q by omega) 1 (.slice (some ⟨g,0,none⟩) n1 cap))
 have HK3:=hid' (HK.out.setCell (p:=⟨q,1,none⟩) HQ.out (.slice (some ⟨g,0,none⟩) n1 cap))
 have HV3:Hid (LentW W1.heap.size (w2.setCell ⟨q,1,none⟩ (.slice (some ⟨g,0,none⟩) n1 cap)) (.slice (some ⟨g,0,none⟩) n1 cap) cnd):=⟨g,cap,by rw [HLN.out],own_kept HHO.out (fun b hb => Deep.blk_setCell_other _ _ _ _ (by
  have:g = b:=by simpa [Value.ownBlock] using hb
  show b ≠ q
  omega))⟩
 have c1:=hI.cell 1 (.slice a1 n1 k1)
 have z1:=hI.fz 1
 have f0:=hI3.cell 0 (.string s1)
 have f1:=hI3.cell 1 (.slice (some ⟨g,0,none⟩) n1 cap)
 have f2:=hI3.cell 2 (.string s3)
 have f3:=hI3.cell 3 (.int .i64 cm)
 have f4:=hI3.cell 4 (.int .i64 cx)
 have f5:=hI3.cell 5 (.int .i64 ckd)
 have f6:=hI3.cell 6 (.slice a2 n2 k2)
 have f7:=hI3.cell 7 (.slice a3 n3 k3)
 have HI3:=hid' hI3
 clear hk2 hI3 hgq ho hIl HA
 go_wp2_with fail
 clear f0 f1 f2 f3 f4 f5 f6 f7 c1 z1 hI
 generalize w2.setCell ⟨q,1,none⟩ (.slice (some ⟨g,0,none⟩) n1 cap) = W3 at HA3 HK3 HV3 HI3 ⊢
 have hrs:=HV3.out.rs
 refine (HW1.out _ HK3.out g cap hrs).mono ?_
 rintro e w4 ⟨hk4,hres⟩
 obtain ⟨e1,q1,rfl,u1⟩:=wr_form hres
 obtain ⟨wl,hwl⟩:∃ t,t = (wrL oo).length:=⟨_,rfl⟩
 obtain ⟨wc,hwc⟩:∃ t,t = wrC oo:=⟨_,rfl⟩
 rw [← hwl] at u1 ⊢
 rw [← hwc]
 have HWE:=hid' (And.intro hwc hwl)
 have HK:=hid' (HK3.out.trans hk4)
 have HA:=hid' (HA3.out.kept hk4)
 have HV:=hid' (HV3.out.kept hk4)
 have HI:=hid' (HI3.out.kept hk4)
 have HU:=hid' u1
 clear hk4 hres u1 hwc hwl hrs HA3 HK3 HV3 HI3
 have f0:=HA.out.cell 0 (.string s1)
 have f1:=HA.out.cell 1 (.slice a1 n1 k1)
 have f2:=HA.out.cell 2 (.string s3)
 have f3:=HA.out.cell 3 (.int .i64 cm)
 have f4:=HA.out.cell 4 (.int .i64 cx)
 have f5:=HA.out.cell 5 (.int .i64 ckd)
 have f6:=HA.out.cell 6 (.slice a2 n2 k2)
 have f7:=HA.out.cell 7 (.slice a3 n3 k3)
 go_wp2_with fail
 refine (HW2.out _ HK.out).mono ?_
 rintro e w5 ⟨hk5,hres⟩
 obtain ⟨e2,q2,rfl,u2⟩:=wr_form hres
 rw [← HWE.out.2] at u2 ⊢
 rw [← HWE.out.1]
 have HK:=hid' (HK.out.trans hk5)
 have HA:=hid' (HA.out.kept hk5)
 have HV:=hid' (HV.out.kept hk5)
 have HI:=hid' (HI.out.kept hk5)
 have htx:=X.texts_any (.slice e1 wl q1) (.slice e2 wl q2) (wrL oo) (wrL oo) w5 (HU.out.kept hk5) u2 (by have:=HWL.out; omega)
 rw [decide_eq_true (rfl:wrL oo = wrL oo)] at htx
 clear hk5 hres u2 f0 f1 f2 f3 f4 f5 f6 f7
 go_wp2_with fail
 refine htx.mono ?_
 rintro e w6 ⟨hk6,rfl⟩
 have HK:=hid' (HK.out.trans hk6)
 have HA:=hid' (HA.out.kept hk6)
 have HV:=hid' (HV.out.kept hk6)
 have HI:=hid' (HI.out.kept hk6)
 have hwh:=HWH.out _ HK.out _ _ HV.out
 have f1:=HA.out.cell 1 (.slice a1 n1 k1)
 have g1:=HI.out.cell 1 (.slice (some ⟨g,0,none⟩) n1 cap)
 clear hk6 htx
 go_wp2_with fail
 refine hwh.mono ?_
 rintro e w7 ⟨hk7,rfl⟩
 have HK:=hid' (HK.out.trans hk7)
 clear hk7 hwh f1 g1
 go_wp2_with fail
 refine (HN1.out _).mono ?_
 rintro e w8 ⟨rfl,rfl⟩
 go_wp2_with fail
 refine (HN2.out _).mono ?_
 rintro e w9 ⟨rfl,rfl⟩
 go_wp2_with fail
 refine (HD1.out _).mono ?_
 rintro e w10 ⟨rfl,rfl⟩
 go_wp2_with fail
 refine (HD2.out _).mono ?_
 rintro e w11 ⟨hk11,rfl⟩
 have HK:=hid' (HK.out.trans hk11)
 clear hk11
 go_wp2_with fail
 go_ret
 exact ⟨HK.out,rfl⟩
end V
end Go.Proofs.YtembglnonhlnkaaGreatDoor
