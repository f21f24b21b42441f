/- back. -/
import Derived.Test.YtdcgdpbgnijnpaaGreatGax
import Derived.Test.YtdcgdpbgnijnpaaGreatGav
namespace Go.Proofs.YtdcgdpbgnijnpaaGreat
open Go.RowKit Go.MapKept Go.Shelf
open V (RowL RowL.alloc RowL.lt RowL.cell RowL.fz RowL.kept)
open Sp (hid)
open Ba (stg lastP pivs wideZ facS Fits)
open Bm (ZI ZI.kept)
attribute [local go_sem] Oper.semAt_some
namespace Bp
set_option maxRecDepth 100000 in
set_option maxHeartbeats 40000000 in
theorem back_any (B fb n limbs:Nat) (sa:Option Addr) (sc:Nat) (Ss:List StC) (M:Nat→Nat→Int) (b:Nat→Int) (ps:List (Nat × Nat)) (uo:Option Addr) (uc:Nat) (w:World) (h:FacR B w fb n limbs sa n sc Ss M ps) (hf:Fits n M ps) (hl:ps.length = n) (hs:facS n limbs M = (ps,0)) (hL:limbs≤32) (hn:n≤48) (hu:IL (sdF n M b ps) w (.slice uo n uc) n) (hW:∀ k,k≤n→sdW n limbs M b ps k = false) :
  Calls Tryz.prog 35 #[.pointer (some ⟨fb,0,none⟩),.slice uo n uc] w (BkIs w n limbs (bkA n M b ps)):=by
 obtain ⟨Q,hQ⟩:∃ Q,Q = BkIs w n limbs (bkA n M b ps):=⟨_,rfl⟩
 rw [← hQ]
 have HQ:=hid hQ
 clear hQ
 have HH:=hid (And.intro h hu)
 have HF:=hid (And.intro hf (And.intro hl (And.intro hs (And.intro hL hW))))
 have hne:lastP M ps ≠ 0:=Ba.last_ne hf.piv
 have HN:=hid hne
 have hmk:=hid (fun u => make_zs (n:=n) (by omega) u)
 clear h hu hf hl hs hL hW hne
 have r2:=RowL.alloc 27 w [.pointer (some ⟨fb,0,none⟩)]
 have r3:=RowL.alloc 23 (w.alloc (.cells #[.pointer (some ⟨fb,0,none⟩)] 27)) [.slice uo n uc]
 have r4:=RowL.alloc 23 ((w.alloc (.cells #[.pointer (some ⟨fb,0,none⟩)] 27)).alloc (.cells #[.slice uo n uc] 23)) [.slice none 0 0]
 have r5:=RowL.alloc 28 (((w.alloc (.cells #[.pointer (some ⟨fb,0,none⟩)] 27)).alloc (.cells #[.slice uo n uc] 23)).alloc (.cells #[.slice none 0 0] 23)) [.int .i64 0]
 have k2:=(Kept.refl w).alloc (.cells #[.pointer (some ⟨fb,0,none⟩)] 27)
 have k3:=(Kept.refl (w.alloc (.cells #[.pointer (some ⟨fb,0,none⟩)] 27))).alloc (.cells #[.slice uo n uc] 23)
 have k4:=(Kept.refl ((w.alloc (.cells #[.pointer (some ⟨fb,0,none⟩)] 27)).alloc (.cells #[.slice uo n uc] 23))).alloc (.cells #[.slice none 0 0] 23)
 have k5:=(Kept.refl (((w.alloc (.cells #[.pointer (some ⟨fb,0,none⟩)] 27)).alloc (.cells #[.slice uo n uc] 23)).alloc (.cells #[.slice none 0 0] 23))).alloc (.cells #[.int .i64 0] 28)
 refine (callsIn_wide (n:=6)).1 (callsIn_of_wp_marks Tryz.func35 rfl trivial (wpIn_wide.2 ?_) rfl)
 simp only [Tryz.ntmps35,List.size_toArray,List.length_cons,List.length_nil,Nat.reduceAdd,Nat.reduceSub,Array.replicate_succ,Array.replicate_zero,List.push_toArray,List.append_toArray,List.nil_append,List.cons_append]
 --%A
 go_upto_region 1 with fail
 have s2:=Sy.alloc_sz w (.cells #[.pointer (some ⟨fb,0,none⟩)] 27)
 have s3:=Sy.alloc_sz (w.alloc (.cells #[.pointer (some ⟨fb,0,none⟩)] 27)) (.cells #[.slice uo n uc] 23)
 have s4:=Sy.alloc_sz ((w.alloc (.cells #[.pointer (some ⟨fb,0,none⟩)] 27)).alloc (.cells #[.slice uo n uc] 23)) (.cells #[.slice none 0 0] 23)
 have s5:=Sy.alloc_sz (((w.alloc (.cells #[.pointer (some ⟨fb,0,none⟩)] 27)).alloc (.cells #[.slice uo n uc] 23)).alloc (.cells #[.slice none 0 0] 23)) (.cells #[.int .i64 0] 28)
 generalize w.alloc (.cells #[.pointer (some ⟨fb,0,none⟩)] 27) = w1 at r2 r3 r4 r5 k2 k3 k4 k5 s2 s3 s4 s5 ⊢
 generalize w1.alloc (.cells #[.slice uo n uc] 23) = w2 at r3 r4 r5 k3 k4 k5 s3 s4 s5 ⊢
 generalize w2.alloc (.cells #[.slice none 0 0] 23) = w3 at r4 r5 k4 k5 s4 s5 ⊢
 generalize w3.alloc (.cells #[.int .i64 0] 28) = w4 at r5 k5 s5 ⊢
 rw [s4,s3,s2] at r5
 rw [s3,s2] at r4
 rw [s2] at r3
 obtain ⟨p5,hp5⟩:∃ p,p = w.heap.size + 1 + 1 + 1:=⟨_,rfl⟩
 obtain ⟨p4,hp4⟩:∃ p,p = w.heap.size + 1 + 1:=⟨_,rfl⟩
 obtain ⟨p3,hp3⟩:∃ p,p = w.heap.size + 1:=⟨_,rfl⟩
 obtain ⟨p2,hp2⟩:∃ p,p = w.heap.size:=⟨_,rfl⟩
 rw [← hp5] at r5 ⊢
 rw [← hp4] at r4 ⊢
 rw [← hp3] at r3 ⊢
 rw [← hp2] at r2 ⊢
 have HP:=hid (show w.heap.size≤p2∧w.heap.size≤p3∧(w.heap.size≤p4∧p4 < w4.heap.size)∧(w.heap.size≤p5∧p5 < w4.heap.size)∧p4 ≠ p5 by omega)
 have k4:=k4.trans k5
 have k3:=k3.trans k4
 have HV:=hid (show ∀ V,Kept w4 V→RowL 27 V p2 [.pointer (some ⟨fb,0,none⟩)]∧RowL 23 V p3 [.slice uo n uc]∧RowL 23 V p4 [.slice none 0 0]∧RowL 28 V p5 [.int .i64 0]∧Kept w V from fun V K => ⟨r2.kept (k3.trans K),r3.kept (k4.trans K),r4.kept (k5.trans K),r5.kept K,(k2.trans k3).trans K⟩)
 clear r2 r3 r4 r5 k2 k3 k4 k5 s2 s3 s4 s5 hp2 hp3 hp4 hp5
 have c2:=(HV.out w4 (Kept.refl _)).1.cell 0 _
 --%B
 go_wp2_with fail
 refine (last_any B fb n limbs sa n sc Ss M ps w4 (HH.out.1.kept (HV.out w4 (Kept.refl _)).2.2.2.2) HN.out (by omega)).mono ?_
 rintro e w5 ⟨hk,s6,o6,k6,c6,rfl,hz⟩
 have kB:=hk.alloc (.cells #[.bool s6,.slice o6 k6 c6] 37)
 have rB:=RowL.alloc 37 w5 [.bool s6,.slice o6 k6 c6]
 have hz:=hz.kept ((Kept.refl w5).alloc (.cells #[.bool s6,.slice o6 k6 c6] 37))
 have s6z:=Sy.alloc_sz w5 (.cells #[.bool s6,.slice o6 k6 c6] 37)
 clear c2 hk
 go_upto_region 2 with fail
 generalize w5.alloc (.cells #[.bool s6,.slice o6 k6 c6] 37) = w6 at kB rB hz s6z ⊢
 obtain ⟨p6,hp6⟩:∃ p,p = w5.heap.size:=⟨_,rfl⟩
 rw [← hp6] at rB s6z ⊢
 clear hp6
 have c3:=(HV.out w6 kB).2.1.cell 0 _
 obtain ⟨w7,hm,k7,s7,hx⟩:=hmk.out w6
 have rC:=RowL.alloc 23 w7 [.slice (some ⟨w6.heap.size,0,none⟩) n n]
 have kC:=(Kept.refl w7).alloc (.cells #[.slice (some ⟨w6.heap.size,0,none⟩) n n] 23)
 have s8z:=Sy.alloc_sz w7 (.cells #[.slice (some ⟨w6.heap.size,0,none⟩) n n] 23)
 obtain ⟨xg,hxg⟩:∃ p,p = w6.heap.size:=⟨_,rfl⟩
 rw [← hxg] at rC kC hm hx s7
 obtain ⟨p7,hp7⟩:∃ p,p = w7.heap.size:=⟨_,rfl⟩
 have HS:=hid (And.intro s6z (And.intro s7 (And.intro s8z (And.intro hxg hp7))))
 clear hmk s6z s7 s8z hxg hp7
 --%C
 go_upto_region 3 with fail
 obtain ⟨s6z,s7,s8z,hxg,hp7⟩:=HS.out
 rw [← hxg] at s8z
 generalize w7.alloc (.cells #[.slice (some ⟨xg,0,none⟩) n n] 23) = w8 at rC kC s8z ⊢
 rw [← hp7] at rC s8z ⊢
 clear hm c3
 have k8:=k7.trans kC
 have H8:=hid (show BkS n w w8 xg p2 p3 p4 p5 p6 p7 fb uo uc (some ⟨xg,0,none⟩) n s6 o6 k6 c6 (lastP M ps) (fun _ => 0) from
  ⟨(HV.out _ (kB.trans k8)).2.2.2.2,(HV.out _ (kB.trans k8)).1,(HV.out _ (kB.trans k8)).2.1,(HV.out _ (kB.trans k8)).2.2.1,(HV.out _ (kB.trans k8)).2.2.2.1,rB.kept k8,rC,(hz.kept k8).mono (HV.out w4 (Kept.refl _)).2.2.2.2.size,(SdX.imp hx fun s v z h => ZN.mono h (by have:=(HV.out w6 kB).2.2.2.2.size; omega)).kept (EN.keeps _) kC,⟨by omega,by have:=(HV.out w6 kB).2.2.2.2.size; omega⟩⟩)
 have hxs:xg < w8.heap.size:=by omega
 have HX:=hid (And.intro hxs (show w.heap.size≤xg by have:=(HV.out w6 kB).2.2.2.2.size; omega))
 clear hz rB rC kC k7 k8 hx kB s6z s7 s8z hxg hp7 HS HV k3 k4 hxs
 have c2:=H8.out.b2.cell 0 _
 have c1:=(HH.out.1.kept H8.out.kept).box.cell 1 _
 --%D
 go_wp2_with fail
 refine (backward_any sa n sc w8).mono ?_
 rintro e w9 ⟨rfl,rfl⟩
 have k9:=(Kept.refl w8).alloc (.cells #[.slice sa n sc] 65)
 have rB:=RowL.alloc 65 w8 [.slice sa n sc]
 have s9z:=Sy.alloc_sz w8 (.cells #[.slice sa n sc] 65)
 obtain ⟨Bs,hBs⟩:∃ p,p = w8.heap.size:=⟨_,rfl⟩
 generalize w8.alloc (.cells #[.slice sa n sc] 65) = w9 at k9 rB s9z ⊢
 rw [← hBs] at rB s9z ⊢
 have H9:=hid (H8.out.later k9)
 have HBs:=hid (show xg < Bs∧w9.heap.size = Bs + 1 from ⟨by have:=HX.out.1; omega,s9z⟩)
 clear c1 c2 k9 hBs s9z
 --%E
 go_wp2_with fail
 obtain ⟨C,hC⟩:∃ C:Nat→StC,C = fun x => Ss.getD (clip n x) ⟨0,0,false,none,0,0,false,none,0,0,0,0⟩:=⟨_,rfl⟩
 have hCj:∀ j (hj:j < Ss.length),j < n→C j = Ss[j]:=fun j hj h => by rw [hC]; show Ss.getD (clip n j) _ = _; rw [clip_eq h,List.getD_eq_getElem?_getD,List.getElem?_eq_getElem hj]; rfl
 have hSl:Ss.length = n:=by rw [HH.out.1.sts.len,HF.out.2.1]
 have hstg:∀ V,Kept w V→StgC V sa n C:=fun V K h0 => by
  obtain ⟨g,e,h1,h2,_⟩:=(HH.out.1.kept K).at (j:=0) (by omega)
  refine ⟨g,e,h1,fun j hj i u hu => ?_⟩
  obtain ⟨g',e',_,_,h3⟩:=(HH.out.1.kept K).at (j:=j) (by omega)
  rw [e] at e'
  cases e'
  exact h3 i u (by rw [← hCj j (by omega) hj]; exact hu)
 have hCx:∀ x,C x = C (clip n x):=fun x => by rw [hC]; show Ss.getD (clip n x) _ = Ss.getD (clip n (clip n x)) _; rw [show clip n (clip n x) = clip n x by unfold clip; omega]
 have HC:=hid (And.intro hCj (And.intro hSl hCx))
 clear hCj hC hSl hCx
 have hsag2:∀ g,sa = some ⟨g,0,none⟩→g < w.heap.size:=fun g e => by
  rcases HH.out.1.sts.own.2 with ⟨e1,_⟩ | ⟨g',_,_,e1,_,h2,_⟩
  ·
   rw [e] at e1; cases e1
  ·
   rw [e] at e1; cases e1; exact (Array.getElem?_eq_some_iff.1 h2).1
 have hw9:w.heap.size≤w9.heap.size:=H9.out.kept.size
 have hstops:SeqStopsK Fence.wide (6 - 1) Tryz.prog 92 #[.pointer (some ⟨Bs,0,none⟩)] (fun x:Nat => #[.int .i64 (x:Int),(C x).v]) (KeepB Bs sa) (fun xs => xs = dn n n) (fun pre => ∃ k,k≤n∧pre = dn n k) n w9:=fun l J Jx W hW _ _ hY h0 =>
  back1_in (6 - 1) (by omega) l Bs n sc sa C J Jx (by omega) hY W ((Below.cell hW (p:=⟨Bs,0,none⟩) (by have:=HBs.out.2; simp; omega)).trans (rB.cell 0 _)) (hstg W (H9.out.kept.trans hW)) h0
 refine (wpIn_wide (n:=6)).1 ?_
 refine wpIn_rangeFunc_ownH rfl (by omega) (gf:=92) (lb:=#[.pointer (some ⟨Bs,0,none⟩)]) rfl trivial (enters_of Tryz.func92 (by kernel_rfl) rfl)
  hstops (fun h k => KeepB.trans h k) (fun W l o o' hl _ _ _ => ⟨World.putObj_heap_other (by have:=HBs.out.2; omega),fun g e => World.putObj_heap_other (by have:=hsag2 g e; omega)⟩) (Below.refl _ _) (fun _ => rfl)
  (fun pre W => BkS n w W xg p2 p3 p4 p5 p6 p7 fb uo uc (some ⟨xg,0,none⟩) n s6 o6 k6 c6 (lastP M ps) (bkX n M b ps (pre.map (clip n)))∧(∀ c,c < n→wideZ limbs (bkX n M b ps (pre.map (clip n)) c) = false)∧w9.heap.size≤W.heap.size)
  (fun c pre W => BkE w W p4 p5∧c = .ret∧∃ j,j < n∧wideZ limbs (bkX n M b ps (pre.map (clip n)) j) = true)
  (OwnFrom.and (BkS.own hw9 (fun pre => bkX n M b ps (pre.map (clip n)))) (OwnFrom.and (ownFrom_pure _ _) (fun _ _ _ _ hs hg _ => Nat.le_trans hs hg.size)))
  (fun c => OwnFrom.and (BkE.own hw9) (ownFrom_pure _ _))
  ⟨H9.out,fun c _ => wide_0 limbs,Nat.le_refl _⟩
  (fun x a' W => ∃ q,w9.heap.size≤q∧RowL 87 W q (C x).cells∧a' = { tmps:=#[.pointer (some ⟨fb,0,none⟩),.slice uo n uc,.pointer (some ⟨p2,0,none⟩),.pointer (some ⟨p3,0,none⟩),.pointer (some ⟨p4,0,none⟩),.pointer (some ⟨p5,0,none⟩),.pointer (some ⟨p6,0,none⟩),.pointer (some ⟨p7,0,none⟩),undef,.pointer (some ⟨q,0,none⟩),undef,undef,undef,.pointer (some ⟨fb,0,none⟩),.agg #[.bool s6,.slice o6 k6 c6],.slice uo n uc,.int .i64 (n:Int),.slice (some ⟨xg,0,none⟩) n n,.pointer (some ⟨fb,0,none⟩),.pointer (some ⟨fb,0,none⟩),.pointer (some ⟨fb,1,none⟩),.slice sa n sc,.func (.func 92) #[] #[.pointer (some ⟨Bs,0,none⟩)],.int .i64 (x:Int),(C x).v,undef,undef,undef,undef,undef,undef,undef,undef,undef,undef,undef,undef,undef,undef,undef,undef,undef,undef,undef,undef,undef,undef,undef,undef,undef,undef,undef,undef,undef,undef,undef,undef,undef,undef,undef,undef,undef,undef,undef,undef,undef,undef,undef],defers:=[] })
  (fun x a' _ X Y row hs hg hr => by obtain ⟨q,h1,h2,h3⟩:=hs; exact ⟨q,h1,row_ownF (β:=Unit) q (C x).cells () X Y row h2 hg hr,h3⟩)
  ?assign ?body ?done ?stop
 case assign =>
  rintro l pre x W K ⟨hI,hno,hsz⟩ hK
  --%F
  gi_wp2_with fail
  exact hK _ _ ((KeepsOthers.alloc _ _).from _) ⟨Below.heap_alloc _ _ _ (by have h1:=HBs.out; omega),fun g e => Below.heap_alloc _ _ _ (by have:=hsag2 g e; have h2:=hI.kept.size; omega)⟩ ⟨hI.later ((Kept.refl W).alloc _),hno,by simp; omega⟩ ⟨W.heap.size,hsz,RowL.alloc 87 W (C x).cells,rfl⟩
 case body =>
  rintro l pre x a' W hl ⟨rl,hrl⟩ ⟨hI,hno,hsz⟩ ⟨q,hq,bX,rfl⟩ hlt
  have h0:0 < n:=by omega
  obtain ⟨j,hj⟩:∃ j,j = clip n x:=⟨_,rfl⟩
  have hjn:j < n:=by rw [hj]; exact clip_lt h0
  have hjS:j < Ss.length:=by rw [HC.out.2.1]; exact hjn
  have hjP:j < ps.length:=by rw [HF.out.2.1]; exact hjn
  obtain ⟨S,hS⟩:∃ S,S = Ss[j]:=⟨_,rfl⟩
  have hCx:C x = S:=by rw [HC.out.2.2,← hj,HC.out.1 j hjS hjn,hS]
  rw [hCx] at bX ⊢
  generalize S.v = v24
  simp only [StC.cells] at bX
  obtain ⟨zs,hzs⟩:∃ f,f = bkX n M b ps (pre.map (clip n)):=⟨_,rfl⟩
  rw [← hzs] at hI hno
  have hst:=(HH.out.1.kept hI.kept).sts.st j hjS hjP
  rw [← hS] at hst
  have SN:StN n M b ps j S.r S.c:=by rw [hst.er,hst.ec]; exact StN.of HF.out.1 HF.out.2.1 HF.out.2.2.1 HF.out.2.2.2.1 (HF.out.2.2.2.2 n (Nat.le_refl n)) hjP
  have hza:NumM B W S.ba n (acr n M ps j):=hst.za.congr fun k => by unfold acr; rw [getD_at hjP]
  have hzp:ZN B W S.s1 (.slice S.o1 S.k1 S.c1) (stg M (ps.take j) S.r S.c):=by rw [hst.er,hst.ec]; exact hst.zp
  have hX32:∀ k,k < n→(zs k).natAbs < W32:=fun k hk => not_wide_32 HF.out.2.2.2.1 (hno k hk)
  have hnx9:bkX n M b ps ((pre ++ [x]).map (clip n)) = upd zs S.c (quo0 (lastP M ps * sdF n M b ps S.r - msum n (acr n M ps j) zs) (stg M (ps.take j) S.r S.c)):=by
   rw [List.map_append,List.map_cons,List.map_nil,← hj,bkX_snoc,← hzs]
   unfold bkS
   rw [SN.er]
  obtain ⟨_,_,e,hu⟩:=il_kept HH.out.2 hI.kept
  cases e
  obtain ⟨ug,uoff,rfl,hug,hu⟩:=hu h0
  obtain ⟨s8,o8,k8,c8,u1,u2,hz8⟩:=hu S.r SN.hr
  have HB:=hid (And.intro hI (And.intro hno (And.intro hsz (And.intro hq (And.intro bX (And.intro SN (And.intro hza (And.intro hzp (And.intro hX32 hnx9)))))))))
  have HU:=hid (And.intro hug (And.intro u1 (And.intro u2 hz8)))
  have i1:(0:Int)≤(S.r:Int):=by omega
  have i2:(S.r:Int) < (n:Int):=by have:=SN.hr; omega
  have HLt:=hid (And.intro hjn h0)
  clear hjS hjP hS hCx hst hza hzp hX32 hnx9 hu hug u1 u2 hz8 SN hI hno hsz hq bX hzs hj hjn h0 hlt hl hrl
  --%J
  gi_wp2_with fail
  rename_i K5 hK5
  have HR:∀ (p10:Nat) (V:World) (s:Bool) (o:Option Addr) (k c:Nat) (v25 v26 v27 v28 v29 v30 v31:Value),Kept W V→W.heap.size≤p10→RowL 37 V p10 [.bool s,.slice o k c]→ZN W.heap.size V s (.slice o k c) (lastP M ps * sdF n M b ps S.r)→K5 { tmps:=#[.pointer (some ⟨fb,0,none⟩),.slice (some ⟨ug,uoff,none⟩) n uc,.pointer (some ⟨p2,0,none⟩),.pointer (some ⟨p3,0,none⟩),.pointer (some ⟨p4,0,none⟩),.pointer (some ⟨p5,0,none⟩),.pointer (some ⟨p6,0,none⟩),.pointer (some ⟨p7,0,none⟩),undef,.pointer (some ⟨q,0,none⟩),.pointer (some ⟨p10,0,none⟩),undef,undef,.pointer (some ⟨fb,0,none⟩),.agg #[.bool s6,.slice o6 k6 c6],.slice (some ⟨ug,uoff,none⟩) n uc,.int .i64 (n:Int),.slice (some ⟨xg,0,none⟩) n n,.pointer (some ⟨fb,0,none⟩),.pointer (some ⟨fb,0,none⟩),.pointer (some ⟨fb,1,none⟩),.slice sa n sc,.func (.func 92) #[] #[.pointer (some ⟨Bs,0,none⟩)],.int .i64 (x:Int),v24,v25,v26,v27,v28,v29,v30,v31,undef,undef,undef,undef,undef,undef,undef,undef,undef,undef,undef,undef,undef,undef,undef,undef,undef,undef,undef,undef,undef,undef,undef,undef,undef,undef,undef,undef,undef,undef,undef,undef,undef,undef,undef,undef],defers:=[] } V:=by
   intro p10 V s o k c v25 v26 v27 v28 v29 v30 v31 K1 hp10 r10 hz
   refine hK5 _ _ ?_
   clear hK5
   --%K
   have HB2:=hid (And.intro (HB.out.1.later K1) (And.intro (HB.out.2.2.2.2.1.kept K1) (And.intro K1 (And.intro hp10 (And.intro r10 hz)))))
   have q6:=HB2.out.2.1.cell 6 _ rfl
   obtain ⟨ob,hrun,hR⟩:=rangeM (.inr ⟨S.ba,rfl,HB.out.2.2.2.2.2.2.1.kept K1⟩:RowM B V (.map (some S.ba)) n (acr n M ps j))
   have kR:=(Kept.refl V).alloc ob
   clear K1 hp10 r10 hz
   gi_wp2_with fail
   obtain ⟨r,hr⟩:∃ r,r = V.heap.size:=⟨_,rfl⟩
   rw [← hr] at hR ⊢
   generalize V.alloc ob = V1 at hR kR ⊢
   have HR2:=hid (And.intro hR (And.intro kR (show W.heap.size≤r by have:=HB2.out.2.2.1.size; omega)))
   clear hrun hr q6 hR kR
   --%N
   gi_loopg [35] n (fun gg _ wr => ∃ (D:List Nat) (s:Bool) (o:Option Addr) (k c:Nat),Hid (Kept W wr∧RowL 37 wr p10 [.bool s,.slice o k c]∧ZN W.heap.size wr s (.slice o k c) (rsD n M b ps zs j S.r D)∧RgO B wr r (some S.ba) n (acr n M ps j) D∧n - D.length≤gg))
   case atStart => exact ⟨[],s,o,k,c,HB2.out.2.2.1.trans HR2.out.2.1,HB2.out.2.2.2.2.1.kept HR2.out.2.1,by unfold rsD; rw [List.map_nil,List.sum_nil,Int.sub_zero]; exact HB2.out.2.2.2.2.2.kept HR2.out.2.1,HR2.out.1,by simp⟩
   case round =>
    obtain ⟨D,s,o,k,c,H⟩:=hrel
    rcases nextM H.out.2.2.2.1 with ⟨hD,hnx⟩ | ⟨key,v,y1,g1,g2,g3,g4,g5,g6,g7,hnx,hen⟩
    ·
     have hnx:=hnx 0
     have HD:=hid hD
     clear hD
     --%O
     gi_wp2_with fail
     --%P
     have hnd:=H.out.2.2.2.1.nd
     obtain ⟨zz,hzz⟩:∃ z,z = lastP M ps * sdF n M b ps S.r - msum n (acr n M ps j) zs:=⟨_,rfl⟩
     have hz:ZN W.heap.size wr s (.slice o k c) zz:=by rw [hzz,← rsD_done (r:=S.r) hnd.1 hnd.2 HD.out]; exact H.out.2.2.1
     obtain ⟨pv,hpv⟩:∃ z,z = stg M (ps.take j) S.r S.c:=⟨_,rfl⟩
     have hpz:=HB.out.2.2.2.2.2.1.piv
     have hzp:=HB.out.2.2.2.2.2.2.2.1
     rw [← hpv] at hpz hzp
     obtain ⟨y,hy⟩:∃ z,z = quo0 zz pv:=⟨_,rfl⟩
     have hq0:y * pv = zz ∨ (¬ pv ∣ zz∧y = 0):=by rw [hy]; exact quo0_is
     have HY:=hid (show y = quo0 (lastP M ps * sdF n M b ps S.r - msum n (acr n M ps j) zs) (stg M (ps.take j) S.r S.c) by rw [hy,hzz,hpv])
     have hc10:=hid (fun (V:World) (K:Kept wr V) => over0_any s S.s1 o S.o1 k c S.k1 S.c1 zz pv y V (hz.zi.kept K) ((hzp.kept (H.out.1.trans K)).zi) hpz hq0)
     obtain ⟨g',t1,t2,t3,t4,e,hgl,x1,x2,_,hfz⟩:=(HB.out.1.later H.out.1).x.at HB.out.2.2.2.2.2.1.hc
     cases e
     have HX1:=hid (And.intro hgl hfz)
     have sS:=hid (fun (V:World) (K:Kept wr V) => show (fun w':World => w'.cell? ⟨p7,0,none⟩ = some (.slice (some ⟨xg,0,none⟩) n n)∧w'.cell? ⟨q,1,none⟩ = some (.int .i64 (S.c:Int))∧w'.cell? ⟨p10,0,none⟩ = some (.bool s)∧w'.cell? ⟨p10,1,none⟩ = some (.slice o k c)∧w'.cell? ⟨q,2,none⟩ = some (.bool S.s1)∧w'.cell? ⟨q,3,none⟩ = some (.slice S.o1 S.k1 S.c1)∧w'.cell? ⟨xg,S.c * 2,none⟩ = some (.bool t1)∧w'.cell? ⟨xg,S.c * 2 + 1,none⟩ = some (.slice t2 t3 t4)) V from ⟨((HB.out.1.later H.out.1).later K).b7.cell 0 _,((HB.out.2.2.2.2.1.kept H.out.1).kept K).cell 1 _ rfl,(H.out.2.1.kept K).cell 0 _ rfl,(H.out.2.1.kept K).cell 1 _ rfl,((HB.out.2.2.2.2.1.kept H.out.1).kept K).cell 2 _ rfl,((HB.out.2.2.2.2.1.kept H.out.1).kept K).cell 3 _ rfl,(K.cell (p:=⟨xg,S.c * 2,none⟩) hgl.2).trans x1,(K.cell (p:=⟨xg,S.c * 2 + 1,none⟩) hgl.2).trans x2⟩)
     have i3:(0:Int)≤(S.c:Int):=by omega
     have i4:(S.c:Int) < (n:Int):=by have:=HB.out.2.2.2.2.2.1.hc; omega
     clear hnd hzz hz hpv hpz hzp hy hq0 hgl x1 x2 hfz hnx
     have KT:Kept wr wr.drew:=(Kept.refl _).drew
     refine rg_z 8 (S:=fun w' => w'.cell? ⟨p7,0,none⟩ = some (.slice (some ⟨xg,0,none⟩) n n)∧w'.cell? ⟨q,1,none⟩ = some (.int .i64 (S.c:Int))∧w'.cell? ⟨p10,0,none⟩ = some (.bool s)∧w'.cell? ⟨p10,1,none⟩ = some (.slice o k c)∧w'.cell? ⟨q,2,none⟩ = some (.bool S.s1)∧w'.cell? ⟨q,3,none⟩ = some (.slice S.o1 S.k1 S.c1)∧w'.cell? ⟨xg,S.c * 2,none⟩ = some (.bool t1)∧w'.cell? ⟨xg,S.c * 2 + 1,none⟩ = some (.slice t2 t3 t4)) (by kernel_rfl) (by kernel_rfl) (by rintro ⟨a,w,h⟩; exact h) (sS.out _ KT) (fun hHeld => ?_)
     generalize wr.drew = Wd at KT hHeld ⊢
     refine X.zk 0 hHeld ?_
     refine X.zk 1 hHeld ?_
     refine X.zk 2 hHeld ?_
     refine X.zk 3 hHeld ?_
     refine X.zk 4 hHeld ?_
     refine X.zk 5 hHeld ?_
     refine X.zr 6 fun K hK => ?_
     go_simp
     refine (hc10.out Wd KT).mono ?_
     rintro e v5 ⟨hk,s5,o5,k5,c5,rfl,hz5⟩
     refine hK.out _ _ (sS.out _ (KT.trans hk)) (fun hHeld => ?_)
     clear hK K
     have K5:=KT.trans hk
     have hz5:=hz5.mono (show w.heap.size≤Wd.heap.size from Nat.le_trans HB.out.1.kept.size (Nat.le_trans H.out.1.size KT.size))
     have f1:v5.frozen? ⟨xg,S.c * 2,none⟩ = false:=(K5.frozens xg (S.c * 2) HX1.out.1.2).trans (HX1.out.2 _)
     have f2:v5.frozen? ⟨xg,S.c * 2 + 1,none⟩ = false:=(K5.frozens xg (S.c * 2 + 1) HX1.out.1.2).trans (HX1.out.2 _)
     refine X.zr 7 fun K hK => ?_
     go_simp
     refine hK.out _ _ hHeld (fun hHeld => ?_)
     clear hK K
     have h9:=hHeld.2.2.2.2.2.2.1
     have h10:=hHeld.2.2.2.2.2.2.2
     refine X.zl fun K hK => ?_
     go_simp
     refine hK.out _ _ ?_
     clear hK K hHeld h9 h10
     refine X.zd ?_
     have KW5:=H.out.1.trans K5
     obtain ⟨hput,kx⟩:=(HB.out.1.later KW5).put HB.out.2.2.2.2.2.1.hc hz5
     have hq6:=RowL_kx (HB.out.2.2.2.2.1.kept KW5) kx ((HB.out.1.later KW5).x.free HLt.out.2 (by decide))
     generalize (v5.setCell ⟨xg,S.c * 2,none⟩ (.bool s5)).setCell ⟨xg,S.c * 2 + 1,none⟩ (.slice o5 k5 c5) = v6 at hput kx hq6 ⊢
     have H6:=hid (And.intro hput (And.intro (show KX (fun k => k = xg) W v6 from (KX.of KW5).trans kx) hq6))
     clear f1 f2 hz5 hk K5 KT hput kx hq6 KW5 sS hc10 HX1
     --%S
     gi_wp2_with fail
     obtain ⟨g',t1,t2,t3,t4,e,hgl,x1,x2,x3,hfz⟩:=H6.out.1.x.at HB.out.2.2.2.2.2.1.hc
     cases e
     have hyy:upd zs S.c y S.c = y:=by unfold upd; rw [if_pos rfl]
     rw [hyy] at x3
     have HX6:=hid x3.zi
     have hfb:=(HH.out.1.kept H6.out.1.kept).box
     have sS:=hid (fun (V:World) (K:Kept v6 V) => show (fun w':World => w'.cell? ⟨p7,0,none⟩ = some (.slice (some ⟨xg,0,none⟩) n n)∧w'.cell? ⟨q,1,none⟩ = some (.int .i64 (S.c:Int))∧w'.cell? ⟨xg,S.c * 2,none⟩ = some (.bool t1)∧w'.cell? ⟨xg,S.c * 2 + 1,none⟩ = some (.slice t2 t3 t4)∧w'.cell? ⟨p2,0,none⟩ = some (.pointer (some ⟨fb,0,none⟩))∧w'.cell? ⟨fb,0,none⟩ = some (.int .i64 (limbs:Int))) V from ⟨(H6.out.1.later K).b7.cell 0 _,(H6.out.2.2.kept K).cell 1 _ rfl,(K.cell (p:=⟨xg,S.c * 2,none⟩) hgl.2).trans x1,(K.cell (p:=⟨xg,S.c * 2 + 1,none⟩) hgl.2).trans x2,(H6.out.1.later K).b2.cell 0 _,(hfb.kept K).cell 0 _ rfl⟩)
     clear hgl x1 x2 x3 hfz hyy hfb
     have KT:Kept v6 v6.drew:=(Kept.refl _).drew
     obtain ⟨bw,hbw⟩:∃ x,x = wideZ limbs y:=⟨_,rfl⟩
     have HBw:=hid hbw
     clear hbw
     cases bw with
     | true =>
      have hF11:=hid (fun (V:World) (K:Kept v6 V) => fits_zi t1 t2 t3 t4 y limbs V (HX6.out.kept K))
      refine rg_h (S:=fun w' => w'.cell? ⟨p7,0,none⟩ = some (.slice (some ⟨xg,0,none⟩) n n)∧w'.cell? ⟨q,1,none⟩ = some (.int .i64 (S.c:Int))∧w'.cell? ⟨xg,S.c * 2,none⟩ = some (.bool t1)∧w'.cell? ⟨xg,S.c * 2 + 1,none⟩ = some (.slice t2 t3 t4)∧w'.cell? ⟨p2,0,none⟩ = some (.pointer (some ⟨fb,0,none⟩))∧w'.cell? ⟨fb,0,none⟩ = some (.int .i64 (limbs:Int))) (by kernel_rfl) (by kernel_rfl) (by rintro ⟨a,w,h⟩; exact h) (sS.out _ KT) (fun hHeld => ?_)
      generalize v6.drew = Wd at KT hHeld ⊢
      refine wk 0 hHeld ?_
      refine wk 1 hHeld ?_
      refine wk 2 hHeld ?_
      refine wk 3 hHeld ?_
      refine wk 4 hHeld ?_
      refine wk 5 hHeld ?_
      refine wk 6 hHeld ?_
      refine wk 7 hHeld ?_
      refine wk 8 hHeld ?_
      refine rdy 9 fun K hK => ?_
      go_simp
      refine (hF11.out Wd KT).mono ?_
      rintro e v7 ⟨rfl,hk⟩
      rw [← HBw.out]
      refine hK.out _ _ (sS.out _ (KT.trans hk)) (fun hHeld => ?_)
      clear hK K
      have K7:=KT.trans hk
      refine wk 10 hHeld ?_
      refine _root_.Go.Proofs.YtdcgdpbgnijnpaaGreat.dn ?_
      clear hHeld
      have HK7:=hid (And.intro (H6.out.1.later K7) K7)
      have HB7:=hid (And.intro (HK7.out.1.b4.cell 0 _ rfl) (HK7.out.1.b5.cell 0 _ rfl))
      have d4:=HK7.out.1.b4.cell 0 _ rfl
      have d5:=HK7.out.1.b5.cell 0 _ rfl
      have f4:=HK7.out.1.b4.fz 0
      have f5:=HK7.out.1.b5.fz 0
      have h45:=HP.out.2.2.2.2
      have h54:p5 ≠ p4:=fun e => h45 e.symm
      clear K7 hk KT HB7
      --%U
      gi_wp2_with fail
      have hI7:=HK7.out.1
      have q4:RowL 23 ((v7.setCell ⟨p4,0,none⟩ (.slice none 0 0)).setCell ⟨p5,0,none⟩ (.int .i64 13)) p4 [.slice none 0 0]:=(RowL.set hI7.b4 0 (.slice none 0 0)).far h45 0 (.int .i64 13)
      have q5:RowL 28 ((v7.setCell ⟨p4,0,none⟩ (.slice none 0 0)).setCell ⟨p5,0,none⟩ (.int .i64 13)) p5 [.int .i64 13]:=(RowL.far hI7.b5 h54 0 (.slice none 0 0)).set 0 (.int .i64 13)
      have kx:KX (fun k => k = xg ∨ k = p4 ∨ k = p5) W ((v7.setCell ⟨p4,0,none⟩ (.slice none 0 0)).setCell ⟨p5,0,none⟩ (.int .i64 13)):=(((H6.out.2.1.mono (fun i hi => .inl hi)).trans (KX.of HK7.out.2)).setCell (p:=⟨p4,0,none⟩) (.inl (.inr (.inl rfl))) _).setCell (p:=⟨p5,0,none⟩) (.inl (.inr (.inr rfl))) _
      refine ⟨kx_fromT kx (fun g hg => ?_),⟨KX.kept HB.out.1.kept kx (fun g hg => ?_),q4,q5⟩,rfl,S.c,HB.out.2.2.2.2.2.1.hc,?_⟩
      ·
       rcases hg with rfl | rfl | rfl
       ·
        exact sdx_cells HB.out.1.x HLt.out.2
       ·
        exact row_cells HB.out.1.b4
       ·
        exact row_cells HB.out.1.b5
      ·
       have h1:=HX.out.2
       have h2:=HP.out
       rcases hg with rfl | rfl | rfl <;> omega
      ·
       rw [HB.out.2.2.2.2.2.2.2.2.2]
       unfold upd
       rw [if_pos rfl,← HY.out]
       exact HBw.out.symm
     | false =>
      have hF11:=hid (fun (V:World) (K:Kept v6 V) => fits_zi t1 t2 t3 t4 y limbs V (HX6.out.kept K))
      refine rg_h (S:=fun w' => w'.cell? ⟨p7,0,none⟩ = some (.slice (some ⟨xg,0,none⟩) n n)∧w'.cell? ⟨q,1,none⟩ = some (.int .i64 (S.c:Int))∧w'.cell? ⟨xg,S.c * 2,none⟩ = some (.bool t1)∧w'.cell? ⟨xg,S.c * 2 + 1,none⟩ = some (.slice t2 t3 t4)∧w'.cell? ⟨p2,0,none⟩ = some (.pointer (some ⟨fb,0,none⟩))∧w'.cell? ⟨fb,0,none⟩ = some (.int .i64 (limbs:Int))) (by kernel_rfl) (by kernel_rfl) (by rintro ⟨a,w,h⟩; exact h) (sS.out _ KT) (fun hHeld => ?_)
      generalize v6.drew = Wd at KT hHeld ⊢
      refine wk 0 hHeld ?_
      refine wk 1 hHeld ?_
      refine wk 2 hHeld ?_
      refine wk 3 hHeld ?_
      refine wk 4 hHeld ?_
      refine wk 5 hHeld ?_
      refine wk 6 hHeld ?_
      refine wk 7 hHeld ?_
      refine wk 8 hHeld ?_
      refine rdy 9 fun K hK => ?_
      go_simp
      refine (hF11.out Wd KT).mono ?_
      rintro e v7 ⟨rfl,hk⟩
      rw [← HBw.out]
      refine hK.out _ _ (sS.out _ (KT.trans hk)) (fun hHeld => ?_)
      clear hK K
      have K7:=KT.trans hk
      refine wk 10 hHeld ?_
      refine _root_.Go.Proofs.YtdcgdpbgnijnpaaGreat.dn ?_
      clear hHeld
      have HK7:=hid (And.intro (H6.out.1.later K7) K7)
      have HB7:=hid (And.intro (HK7.out.1.b4.cell 0 _ rfl) (HK7.out.1.b5.cell 0 _ rfl))
      clear K7 hk KT HB7
      --%W
      gi_wp2_with fail
      have kx:KX (fun k => k = xg) W v7:=H6.out.2.1.trans (KX.of HK7.out.2)
      have hzb:=HB.out.2.2.1
      have hbs:=HBs.out
      refine ⟨kx_from kx (sdx_cells HB.out.1.x HLt.out.2),kx_keepB kx (by omega) (by omega) (fun i hi => ?_),?_,?_,?_⟩
      ·
       have h1:=hsag2 i hi
       have h2:=HB.out.1.kept.size
       have h3:=HX.out.2
       omega
      ·
       rw [HB.out.2.2.2.2.2.2.2.2.2,← HY.out]
       exact HK7.out.1
      ·
       intro i hi
       rw [HB.out.2.2.2.2.2.2.2.2.2,← HY.out]
       unfold upd
       by_cases e:i = S.c
       ·
        rw [if_pos e]; exact HBw.out.symm
       ·
        rw [if_neg e]; exact HB.out.2.1 i hi
      ·
       have:=kx.size
       omega
    ·
     have hnx:=hnx 0
     --%Q
     obtain ⟨e1,e2,e3,e4,rfl,hzv,_⟩:=g4.zn
     have KW1:Kept W y1:=KX.kept H.out.1 g6 (fun i hi => by rw [hi]; exact HR2.out.2.2)
     have hf10:=H.out.2.2.2.1.free
     have r10':=RowL_kx H.out.2.1 g6 (hf10 _)
     have hz10:=H.out.2.2.1.kx g6 (hf10 _)
     have hlen:=g5.len
     have hnd:=g5.nd
     have r12:=RowL.alloc 37 y1 [.bool e1,.slice e2 e3 e4]
     have k12:=(Kept.refl y1).alloc (.cells #[.bool e1,.slice e2 e3 e4] 37)
     have HG:=hid (And.intro g3 (And.intro KW1 (And.intro r10' (And.intro hz10 (And.intro g5 (And.intro hlen (And.intro hnd hzv)))))))
     clear g1 g2 g3 g4 g5 g6 g7 hf10 r10' hz10 hlen hnd hzv KW1
     gi_wp2_with fail
     obtain ⟨p12,hp12⟩:∃ p,p = y1.heap.size:=⟨_,rfl⟩
     rw [← hp12] at r12 ⊢
     generalize y1.alloc (.cells #[.bool e1,.slice e2 e3 e4] 37) = y2 at r12 k12 ⊢
     have HG2:=hid (And.intro r12 k12)
     clear r12 k12 hp12 hnx hen
     obtain ⟨g',t1,t2,t3,t4,e,hgl,x1,x2,x3,hfz⟩:=(HB.out.1.later (HG.out.2.1.trans HG2.out.2)).x.at HG.out.1
     cases e
     have i3:(0:Int)≤(key:Int):=by omega
     have i4:(key:Int) < (n:Int):=by have:=HG.out.1; omega
     have hal:(acr n M ps j key * zs key).natAbs < _root_.Go.Proofs.YtdcgdpbgnijnpaaGreat.M.W72:=mul_lim (HB.out.2.2.2.2.2.1.acr key) (HB.out.2.2.2.2.2.2.2.2.1 key HG.out.1)
     have hrl:(rsD n M b ps zs j S.r D - acr n M ps j key * zs key).natAbs < _root_.Go.Proofs.YtdcgdpbgnijnpaaGreat.M.W72:=by rw [← rsD_cons]; exact rsD_lim HB.out.2.2.2.2.2.1 HB.out.2.2.2.2.2.2.2.2.1 HG.out.2.2.2.2.2.2.1.2 (by have:=HG.out.2.2.2.2.2.1; omega)
     have hc1:=hid (fun (V:World) (K:Kept y2 V) => times_any e1 t1 e2 t2 e3 e4 t3 t4 _ _ V (((HG.out.2.2.2.2.2.2.2.kept HG2.out.2).kept K).zi) (x3.zi.kept K) hal)
     have hc2:=hid (fun (s9:Bool) (o9:Option Addr) (k9 c9:Nat) (V:World) (K:Kept y2 V) (hzz:ZI V s9 (.slice o9 k9 c9) (acr n M ps j key * zs key)) => minus_any s s9 o o9 k c k9 c9 _ _ V (((HG.out.2.2.2.1.kept HG2.out.2).kept K).zi) hzz hrl)
     have sS:=hid (fun (V:World) (K:Kept y2 V) => show (fun w':World => w'.cell? ⟨p10,0,none⟩ = some (.bool s)∧w'.cell? ⟨p10,1,none⟩ = some (.slice o k c)∧w'.cell? ⟨p12,0,none⟩ = some (.bool e1)∧w'.cell? ⟨p12,1,none⟩ = some (.slice e2 e3 e4)∧w'.cell? ⟨p7,0,none⟩ = some (.slice (some ⟨xg,0,none⟩) n n)∧w'.cell? ⟨xg,key * 2,none⟩ = some (.bool t1)∧w'.cell? ⟨xg,key * 2 + 1,none⟩ = some (.slice t2 t3 t4)) V from ⟨((HG.out.2.2.1.kept HG2.out.2).kept K).cell 0 _ rfl,((HG.out.2.2.1.kept HG2.out.2).kept K).cell 1 _ rfl,(HG2.out.1.kept K).cell 0 _ rfl,(HG2.out.1.kept K).cell 1 _ rfl,((HB.out.1.later (HG.out.2.1.trans HG2.out.2)).later K).b7.cell 0 _,(K.cell (p:=⟨xg,key * 2,none⟩) hgl.2).trans x1,(K.cell (p:=⟨xg,key * 2 + 1,none⟩) hgl.2).trans x2⟩)
     clear x1 x2 x3 hfz hgl hal hrl
     have KT:Kept y2 y2.drew:=(Kept.refl _).drew
     refine rg_z 8 (S:=fun w' => w'.cell? ⟨p10,0,none⟩ = some (.bool s)∧w'.cell? ⟨p10,1,none⟩ = some (.slice o k c)∧w'.cell? ⟨p12,0,none⟩ = some (.bool e1)∧w'.cell? ⟨p12,1,none⟩ = some (.slice e2 e3 e4)∧w'.cell? ⟨p7,0,none⟩ = some (.slice (some ⟨xg,0,none⟩) n n)∧w'.cell? ⟨xg,key * 2,none⟩ = some (.bool t1)∧w'.cell? ⟨xg,key * 2 + 1,none⟩ = some (.slice t2 t3 t4)) (by kernel_rfl) (by kernel_rfl) (by rintro ⟨a,w,h⟩; exact h) (sS.out _ KT) (fun hHeld => ?_)
     generalize y2.drew = Wd at KT hHeld ⊢
     refine X.zk 0 hHeld ?_
     refine X.zk 1 hHeld ?_
     refine X.zk 2 hHeld ?_
     refine X.zk 3 hHeld ?_
     refine X.zk 4 hHeld ?_
     refine X.zk 5 hHeld ?_
     refine X.zr 6 fun K hK => ?_
     go_simp
     refine (hc1.out Wd KT).mono ?_
     rintro e v5 ⟨hk,s9,o9,k9,c9,rfl,hz9⟩
     refine hK.out _ _ (sS.out _ (KT.trans hk)) (fun hHeld => ?_)
     clear hK K
     have K5:=KT.trans hk
     clear hk KT
     have hm:=hc2.out s9 o9 k9 c9 v5 K5 hz9.zi
     clear hz9
     refine X.zr 7 fun K hK => ?_
     go_simp
     refine hm.mono ?_
     rintro e v6 ⟨hk,s7,o7,k7,c7,rfl,hz7⟩
     refine hK.out _ _ (sS.out _ (K5.trans hk)) (fun hHeld => ?_)
     clear hK K
     have K6:=HG2.out.2.trans (K5.trans hk)
     have hz7:=hz7.mono (show W.heap.size≤v5.heap.size from Nat.le_trans (HG.out.2.1.trans HG2.out.2).size K5.size)
     have r10:=HG.out.2.2.1.kept K6
     have c90:=r10.cell 0 _
     have c91:=r10.cell 1 _
     have g90:=r10.fz 0
     have g91:=r10.fz 1
     refine X.zl fun K hK => ?_
     go_simp
     refine hK.out _ _ ?_
     clear hK K hHeld
     refine X.zd ?_
     have hp10:=HB2.out.2.2.2.1
     have hrk:=(HG.out.2.2.2.2.1.kept K6).kx (((KX.refl v6).setCell (T:=fun k => k = p10) (p:=⟨p10,0,none⟩) (.inl rfl) (.bool s7)).setCell (p:=⟨p10,1,none⟩) (.inl rfl) (.slice o7 k7 c7)) (rowl_free r10 (by decide)) ((HG.out.2.2.2.2.1.kept K6).far_row r10) (fun b' hb' e => by cases hb'; have h1:=HB.out.2.2.2.2.2.2.1.lt; omega)
     have H9:=hid (And.intro (((HG.out.2.1.trans K6).setCell (p:=⟨p10,0,none⟩) hp10 (.bool s7)).setCell (p:=⟨p10,1,none⟩) hp10 (.slice o7 k7 c7)) (And.intro ((r10.set 0 (.bool s7)).set 1 (.slice o7 k7 c7)) (And.intro (zn_row hz7 r10 (by decide) (.bool s7) (.slice o7 k7 c7)) hrk)))
     generalize (v6.setCell ⟨p10,0,none⟩ (.bool s7)).setCell ⟨p10,1,none⟩ (.slice o7 k7 c7) = v8 at H9 ⊢
     clear c90 c91 g90 g91 r10 hz7 hrk hk K6 K5 hm
     --%R
     gi_wp2_with fail
     gi_roundg (n - (D.length + 1))
     case measure => have h1:=HG.out.2.2.2.2.2.1; simp only [List.length_cons] at h1; have:=H.out.2.2.2.2; omega
     case rel => exact ⟨key :: D,s7,o7,k7,c7,H9.out.1,H9.out.2.1,by rw [rsD_cons]; exact H9.out.2.2.1,H9.out.2.2.2,by simp⟩
  clear hK5
  have KT:Kept W W.drew:=(Kept.refl _).drew
  have sS:=hid (fun (V:World) (K:Kept W V) => show (fun w':World => w'.cell? ⟨p6,0,none⟩ = some (.bool s6)∧w'.cell? ⟨p6,1,none⟩ = some (.slice o6 k6 c6)∧w'.cell? ⟨p3,0,none⟩ = some (.slice (some ⟨ug,uoff,none⟩) n uc)∧w'.cell? ⟨q,0,none⟩ = some (.int .i64 (S.r:Int))∧w'.cell? ⟨ug,uoff + S.r * 2,none⟩ = some (.bool s8)∧w'.cell? ⟨ug,uoff + S.r * 2 + 1,none⟩ = some (.slice o8 k8 c8)) V from ⟨(HB.out.1.later K).b6.cell 0 _,(HB.out.1.later K).b6.cell 1 _,(HB.out.1.later K).b3.cell 0 _,(HB.out.2.2.2.2.1.kept K).cell 0 _ rfl,(K.cell (p:=⟨ug,uoff + S.r * 2,none⟩) HU.out.1).trans HU.out.2.1,(K.cell (p:=⟨ug,uoff + S.r * 2 + 1,none⟩) HU.out.1).trans HU.out.2.2.1⟩)
  have hcall:=hid (fun (V:World) (K:Kept W V) => times_any s6 s8 o6 o8 k6 c6 k8 c8 _ _ V (HB.out.1.later K).d.zi (HU.out.2.2.2.kept K) (mul_lim HB.out.2.2.2.2.2.1.last HB.out.2.2.2.2.2.1.side))
  refine rg_z 8 (S:=fun w' => w'.cell? ⟨p6,0,none⟩ = some (.bool s6)∧w'.cell? ⟨p6,1,none⟩ = some (.slice o6 k6 c6)∧w'.cell? ⟨p3,0,none⟩ = some (.slice (some ⟨ug,uoff,none⟩) n uc)∧w'.cell? ⟨q,0,none⟩ = some (.int .i64 (S.r:Int))∧w'.cell? ⟨ug,uoff + S.r * 2,none⟩ = some (.bool s8)∧w'.cell? ⟨ug,uoff + S.r * 2 + 1,none⟩ = some (.slice o8 k8 c8)) (by kernel_rfl) (by kernel_rfl) (by rintro ⟨a,w,h⟩; exact h) (sS.out _ KT) (fun hHeld => ?_)
  generalize W.drew = Wd at KT hHeld ⊢
  refine X.zk 0 hHeld ?_
  refine X.zk 1 hHeld ?_
  refine X.zk 2 hHeld ?_
  refine X.zk 3 hHeld ?_
  refine X.zk 4 hHeld ?_
  refine X.zk 5 hHeld ?_
  refine X.anyZ_ready (rs:=[6,7]) (by kernel_rfl) (by simp) (X.AllZ.cons rfl (fun K hK => ?_) (X.AllZ.cons rfl (fun K hK => ?_) X.AllZ.nil))
  ·
   --%L
   go_simp
   refine (hcall.out Wd KT).mono ?_
   rintro e u1 ⟨hk,s,o,k,c,rfl,hz⟩
   have hz:=hz.mono (show W.heap.size≤Wd.heap.size from KT.size)
   refine hK.out _ _ (sS.out _ (KT.trans hk)) (fun hHeld => ?_)
   clear hK K
   have KT:=KT.trans hk
   refine X.zr 7 fun K hK => ?_
   go_simp
   refine hK.out _ _ (sS.out _ (KT.alloc _)) (fun hHeld => ?_)
   clear hK K
   have r10:=RowL.alloc 37 u1 [.bool false,.slice none 0 0]
   have hp10:W.heap.size≤u1.heap.size:=KT.size
   have KA:=(Kept.refl u1).alloc (.cells #[.bool false,.slice none 0 0] 37)
   have KT:=KT.alloc (.cells #[.bool false,.slice none 0 0] 37)
   obtain ⟨p10,hg9⟩:∃ p,p = u1.heap.size:=⟨_,rfl⟩
   rw [← hg9] at r10 hp10 ⊢
   generalize u1.alloc (.cells #[.bool false,.slice none 0 0] 37) = Wa at r10 KA KT hHeld ⊢
   clear hg9
   have hz:=hz.kept KA
   have c90:=r10.cell 0 _
   have c91:=r10.cell 1 _
   have g90:=r10.fz 0
   have g91:=r10.fz 1
   refine X.zl fun K hK => ?_
   go_simp
   refine hK.out _ _ ?_
   clear hK K
   refine X.zd ?_
   exact HR p10 _ s o k c _ _ _ _ _ _ _ ((KT.setCell (p:=⟨p10,0,none⟩) hp10 _).setCell (p:=⟨p10,1,none⟩) hp10 _) hp10 ((r10.set 0 _).set 1 _) (zn_row hz r10 (by decide) _ _)
  ·
   --%M
   go_simp
   refine hK.out _ _ (sS.out _ (KT.alloc _)) (fun hHeld => ?_)
   clear hK K
   have r10:=RowL.alloc 37 Wd [.bool false,.slice none 0 0]
   have hp10:W.heap.size≤Wd.heap.size:=KT.size
   have KA:=(Kept.refl Wd).alloc (.cells #[.bool false,.slice none 0 0] 37)
   have KT:=KT.alloc (.cells #[.bool false,.slice none 0 0] 37)
   obtain ⟨p10,hg9⟩:∃ p,p = Wd.heap.size:=⟨_,rfl⟩
   rw [← hg9] at r10 hp10 ⊢
   generalize Wd.alloc (.cells #[.bool false,.slice none 0 0] 37) = Wa at r10 KA KT hHeld ⊢
   clear hg9
   refine X.zr 6 fun K hK => ?_
   go_simp
   refine (hcall.out Wa KT).mono ?_
   rintro e u1 ⟨hk,s,o,k,c,rfl,hz⟩
   have hz:=hz.mono (show W.heap.size≤Wa.heap.size from KT.size)
   refine hK.out _ _ (sS.out _ (KT.trans hk)) (fun hHeld => ?_)
   clear hK K
   have KT:=KT.trans hk
   have r10:=r10.kept hk
   have c90:=r10.cell 0 _
   have c91:=r10.cell 1 _
   have g90:=r10.fz 0
   have g91:=r10.fz 1
   refine X.zl fun K hK => ?_
   go_simp
   refine hK.out _ _ ?_
   clear hK K
   refine X.zd ?_
   exact HR p10 _ s o k c _ _ _ _ _ _ _ ((KT.setCell (p:=⟨p10,0,none⟩) hp10 _).setCell (p:=⟨p10,1,none⟩) hp10 _) hp10 ((r10.set 0 _).set 1 _) (zn_row hz r10 (by decide) _ _)
 case done =>
  rintro D xs W hD hS ⟨hI,hno,hsz⟩ hK
  have c7:=hI.b7.cell 0 _
  have d4:=hI.b4.cell 0 _
  have d5:=hI.b5.cell 0 _
  have f4:=hI.b4.fz 0
  have f5:=hI.b5.fz 0
  have HI:=hid (And.intro hI (And.intro hno (And.intro hK hS)))
  have h45:=HP.out.2.2.2.2
  have h54:p5 ≠ p4:=fun e => h45 e.symm
  clear hI hno hK hS
  --%H
  go_wp2_with fail
  obtain ⟨hI,hno,hK,hS⟩:=HI.out
  obtain ⟨q1,q2,q3,q4,q5⟩:=end_kx (v:=.slice (some ⟨xg,0,none⟩) n n) (u:=.int .i64 0) (.deferred none) hI.b4 hI.b5 hK
  have e4:=q2.cell 0 _
  have e5:=q3.cell 0 _
  refine ⟨by simp,.inl ⟨_,_,rfl,run_takeDeferred q5,.tuple #[.slice (some ⟨xg,0,none⟩) n n,.int .i64 0],by simp [results,Tryz.results35,go_sem,e4,e5],?_⟩⟩
  rw [HQ.out]
  have hd:bkX n M b ps (xs.map (clip n)) = bkA n M b ps:=by rw [hS,clip_dn (Nat.le_refl n)]; rfl
  rw [hd] at hI hno
  have hsz:=HP.out
  have hw9:=H9.out.kept.size
  refine ⟨KX.kept hI.kept q1 (fun k hk => by rcases hk with rfl | rfl | rfl <;> omega),.inr ⟨hno,_,_,rfl,?_⟩⟩
  exact SdX.mono2 (hI.x.kx (EN.keeps _) q1 (q4 _ (by decide) (by decide)) (q4 _ (by decide) (by decide))) hI.far.2
 case stop =>
  rintro D c pre W hD hSp ⟨hE,rfl,hw⟩ hK
  refine wpIn_ret ?_
  --%I
  have q1:=kx_putObj (W:=W) (D:=D) (.deferred none)
  have e4:=(hE.b4.block (w':=W.putObj D (.deferred none)) (World.putObj_heap_other (fun e => by obtain ⟨c,h,_⟩:=hE.b4; rw [e,hK] at h; cases h))).cell 0 _
  have e5:=(hE.b5.block (w':=W.putObj D (.deferred none)) (World.putObj_heap_other (fun e => by obtain ⟨c,h,_⟩:=hE.b5; rw [e,hK] at h; cases h))).cell 0 _
  refine ⟨by simp,.inl ⟨_,_,rfl,run_takeDeferred hK,.tuple #[.slice none 0 0,.int .i64 13],by simp [results,Tryz.results35,go_sem,e4,e5],?_⟩⟩
  rw [HQ.out]
  have hw9:=H9.out.kept.size
  obtain ⟨k,hk,rfl⟩:=hSp
  rw [clip_dn hk] at hw
  obtain ⟨j,hj,hw⟩:=hw
  refine ⟨KX.kept hE.kept q1 (fun k hk => by omega),.inl ⟨⟨j,hj,?_⟩,rfl⟩⟩
  cases e:wideZ limbs (bkA n M b ps j) with
  | true => rfl
  | false =>
   obtain ⟨i,hi,rfl⟩:=col_stage HF.out.1 HF.out.2.1 hj
   by_cases hik:n - k≤i
   ·
    rw [bkX_done HF.out.1 HF.out.2.1 hk hi hik,e] at hw
    cases hw
   ·
    rw [bkX_left HF.out.1 hk HF.out.2.1 hi (by omega),wide_0] at hw
    cases hw
end Bp
end Go.Proofs.YtdcgdpbgnijnpaaGreat
