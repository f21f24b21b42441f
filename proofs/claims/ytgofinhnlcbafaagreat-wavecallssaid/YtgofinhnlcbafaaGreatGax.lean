/- wave.Next. Where a step lies: a pulse's pieceAt, pointsPieceAt. pointsPieceAt. wave.over, a piece's onGrid. A piece's onGrid. wave.pieceAt, wave.At. wave.At. shuntlaw04.awake. -/
import Derived.Test.YtgofinhnlcbafaaGreatGar
import Derived.Test.YtgofinhnlcbafaaGreatGaw
namespace Go.Proofs.YtgofinhnlcbafaaGreat
open Go.RowKit
namespace V
open Q (hid' Row3 Row2)
theorem okW_parts {k:Int} {vs:List (Int × Int)} {ss:List Int} (h:okW k vs ss = true):fitsB k vs.length ss.length = true∧vs.all (fun p => Q.okN p.1 p.2) = true∧ss.all okS = true∧hangB k ss = true:=by
 unfold okW at h
 rw [Bool.and_eq_true,Bool.and_eq_true,Bool.and_eq_true] at h
 exact ⟨h.1.1,h.1.2.1,h.1.2.2,h.2⟩
structure Pul (d r b f P:Int):Prop where
 d0:0≤d
 d1:d≤1000000000
 r0:0≤r
 b0:0≤b
 f0:0≤f
 p0:1≤P
 p1:P≤1000000000
 s:r + b + f≤P
theorem okW_pul {vs:List (Int × Int)} {ss:List Int} (h:okW 2 vs ss = true):vs.length = 2∧ss.length = 5∧Pul (ss.getD 0 0) (ss.getD 1 0) (ss.getD 2 0) (ss.getD 3 0) (ss.getD 4 0):=by
 obtain ⟨h1,_,h3,h4⟩:=okW_parts h
 have hl:=fits2 h1
 have s0:=okS_all h3 0 (by omega)
 have s1:=okS_all h3 1 (by omega)
 have s2:=okS_all h3 2 (by omega)
 have s3:=okS_all h3 3 (by omega)
 have s4:=okS_all h3 4 (by omega)
 unfold hangB at h4
 rw [if_pos rfl,Bool.and_eq_true] at h4
 exact ⟨hl.1,hl.2,s0.1,s0.2,s1.1,s2.1,s3.1,of_decide_eq_true h4.1,s4.2,of_decide_eq_true h4.2⟩
theorem cin_gt {r b f P u:Int} (hu:u < P):u < cinP r b f P u:=by
 unfold cinP; split <;> (try split) <;> (try split) <;> omega
theorem corP_eq (d r b f P t:Int):corP d r b f P t = if t < d then d else t - (t - d) % P + cinP r b f P ((t - d) % P):=rfl
theorem corP_gt {d r b f P t:Int} (h:Pul d r b f P):t < corP d r b f P t:=by
 rw [corP_eq]
 split
 ·
  assumption
 ·
  have:=cin_gt (r:=r) (b:=b) (f:=f) (Int.emod_lt_of_pos (t - d) (show 0 < P by have:=h.p0; omega))
  omega
theorem corW_gt {k:Int} {vs:List (Int × Int)} {ss:List Int} {t c:Int} (h:okW k vs ss = true) (hc:corW k ss t = some c):t < c:=by
 unfold corW at hc
 split at hc
 ·
  rename_i hk
  subst hk
  simp at hc
  rw [← hc]
  exact corP_gt (okW_pul h).2.2
 ·
  split at hc
  ·
   split at hc
   ·
    simp at hc
   ·
    simp only [Option.some.injEq] at hc
    rw [← hc]
    have:=fa_le ss t
    exact fa_at (by omega)
  ·
   split at hc
   ·
    simp at hc; omega
   ·
    simp at hc
def corT (k:Int) (ss:List Int) (t:Int):Int × Bool :=
 match corW k ss t with
 | none => (0,false)
 | some c => (c,true)
set_option maxHeartbeats 4000000 in
theorem qcorner_any (k:Int) (a1 a2:Option Addr) (n c m c':Nat) (ss:List Int) (t:Int) (w:World) (h2:ISl w (.slice a2 m c') ss) (hm:m≤16) :
  Calls Tryz.prog 53 #[.agg #[.int .i64 k,.slice a1 n c,.slice a2 m c'],.int .i64 t] w fun e w' => Kept w w'∧e = .returned (.tuple #[.int .i64 (corT 3 ss t).1,.bool (corT 3 ss t).2]):=by
 have HS:=hid' h2
 clear h2
 go_enter Tryz.func53,Tryz.ntmps53
 go_upto_region 1 with fail
 have hK:=(Kept.refl w).alloc (.cells #[.int .i64 k,.slice a1 n c,.slice a2 m c'] 25)
 have hR:=Row3.alloc 25 w (.int .i64 k) (.slice a1 n c) (.slice a2 m c')
 generalize w.alloc (.cells #[.int .i64 k,.slice a1 n c,.slice a2 m c'] 25) = W at hK hR ⊢
 obtain ⟨p1,hp1⟩:∃ p,p = w.heap.size:=⟨_,rfl⟩
 rw [← hp1] at hR ⊢
 have HK:=hid' hK
 have HR:=hid' hR
 have q2:=hR.c2
 clear hp1 hK hR
 go_wp2_with fail
 refine (firstAbove_any a2 m c' ss t _ (HS.out.kept HK.out) hm).mono ?_
 rintro e w1 ⟨hk1,rfl⟩
 have HK1:=hid' (HK.out.trans hk1)
 have q2:=(HR.out.kept hk1).c2
 clear hk1
 have hlen:=HS.out.len
 have hle:=fa_le ss t
 by_cases hf:fa ss t = ss.length
 ·
  have hfi:fai ss t = -1:=by unfold fai; rw [if_pos hf]
  have HC:Hid (corT 3 ss t = (0,false)):=by show _ = _; unfold corT corW; simp [hf]
  rw [hfi]
  go_wp2_with fail
  go_ret2
  exact ⟨HK1.out,by rw [HC.out]; rfl⟩
 ·
  have hfi:fai ss t = (fa ss t:Int):=by unfold fai; rw [if_neg hf]
  have HC:Hid (corT 3 ss t = (ss.getD (fa ss t) 0,true)):=by show _ = _; unfold corT corW; simp [hf]
  rw [hfi]
  obtain ⟨ao,cap,hv,hx⟩:=HS.out.kept HK1.out
  simp only [Value.slice.injEq] at hv
  obtain ⟨rfl,hl,rfl⟩:=hv
  obtain ⟨b,off,rfl,hb,hc⟩:=hx (by omega)
  have c0:=hc (fa ss t) (by omega)
  have hlt:fa ss t < m:=by omega
  obtain ⟨i,hi⟩:∃ i,i = fa ss t:=⟨_,rfl⟩
  obtain ⟨y,hy⟩:∃ y,y = ss.getD (fa ss t) 0:=⟨_,rfl⟩
  rw [← hy,← hi] at c0
  rw [← hi] at hlt ⊢
  have HY:=hid' hy
  have hz:(i:Int) < (m:Int):=by omega
  have hz0:¬ (i:Int) < 0:=by omega
  clear hx hc hl hb hf hfi hle hi hy
  go_wp2_with fail
  go_ret2
  exact ⟨HK1.out,by rw [HC.out,← HY.out]; rfl⟩
set_option maxHeartbeats 4000000 in
theorem corner_any (k:Int) (a1 a2:Option Addr) (n c m c':Nat) (vs:List (Int × Int)) (ss:List Int) (t:Int) (w:World) (h1:NSl w (.slice a1 n c) vs) (h2:ISl w (.slice a2 m c') ss) (ho:okW k vs ss = true) (ht:okS t = true) :
  Calls Tryz.prog 28 #[.agg #[.int .i64 k,.slice a1 n c,.slice a2 m c'],.int .i64 t] w fun e w' => Kept w w'∧e = .returned (.tuple #[.int .i64 (corT k ss t).1,.bool (corT k ss t).2]):=by
 have ht':0≤t∧t≤1000000000:=by unfold okS at ht; simpa using ht
 have HS:=hid' (And.intro h1 (And.intro h2 ho))
 clear h1 h2 ho ht
 go_enter Tryz.func28,Tryz.ntmps28
 go_upto_region 1 with fail
 have hK:=(Kept.refl w).alloc (.cells #[.int .i64 k,.slice a1 n c,.slice a2 m c'] 25)
 have hR:=Row3.alloc 25 w (.int .i64 k) (.slice a1 n c) (.slice a2 m c')
 generalize w.alloc (.cells #[.int .i64 k,.slice a1 n c,.slice a2 m c'] 25) = W at hK hR ⊢
 obtain ⟨p1,hp1⟩:∃ p,p = w.heap.size:=⟨_,rfl⟩
 rw [← hp1] at hR ⊢
 have HK:=hid' hK
 have HR:=hid' hR
 have q0:=hR.c0
 have q1:=hR.c1
 have q2:=hR.c2
 clear hp1 hK hR
 by_cases k2:k = 2
 ·
  subst k2
  go_wp2_with fail
  obtain ⟨lv,ls,hp⟩:=okW_pul HS.out.2.2
  refine (pulseOf_any 2 a1 a2 n c m c' vs ss _ (HS.out.1.kept HK.out) (HS.out.2.1.kept HK.out) (by rw [HS.out.1.len]; exact lv) (by rw [HS.out.2.1.len]; exact ls)).mono ?_
  rintro e w1 ⟨hk1,rfl⟩
  have HK1:=hid' (HK.out.trans hk1)
  have HC:Hid (corT 2 ss t = (corP (ss.getD 0 0) (ss.getD 1 0) (ss.getD 2 0) (ss.getD 3 0) (ss.getD 4 0) t,true)):=by show _ = _; unfold corT corW; simp
  have HP:=hid' hp
  clear hk1 lv ls hp q0 q1 q2
  rw [corP_eq] at HC
  generalize (vs.getD 0 (0,0)).1 = x0
  generalize (vs.getD 0 (0,0)).2 = x1
  generalize (vs.getD 1 (0,0)).1 = x2
  generalize (vs.getD 1 (0,0)).2 = x3
  generalize ss.getD 0 0 = y0 at *
  generalize ss.getD 1 0 = y1 at *
  generalize ss.getD 2 0 = y2 at *
  generalize ss.getD 3 0 = y3 at *
  generalize ss.getD 4 0 = y4 at *
  unfold pul
  go_wp2_with fail
  refine (pcorner_any x0 x1 x2 x3 y0 y1 y2 y3 y4 t _ HP.out.d0 HP.out.r0 HP.out.b0 HP.out.f0 HP.out.p0 HP.out.s HP.out.p1 HP.out.d1 ht'.1 ht'.2).mono ?_
  rintro e w2 ⟨hk2,rfl⟩
  have HK2:=hid' (HK1.out.trans hk2)
  clear hk2
  generalize (if t < y0 then y0 else t - (t - y0) % y4 + cinP y1 y2 y3 y4 ((t - y0) % y4)) = cc at *
  go_wp2_with fail
  go_ret2
  exact ⟨HK2.out,by rw [HC.out]; rfl⟩
 by_cases k3:k = 3
 ·
  subst k3
  go_wp2_with fail
  have hl:=fits_len (okW_parts HS.out.2.2).1
  have hm:m≤16:=by have:=HS.out.2.1.len; omega
  refine (qcorner_any 3 a1 a2 n c m c' ss t _ (HS.out.2.1.kept HK.out) hm).mono ?_
  rintro e w1 ⟨hk1,rfl⟩
  have HK1:=hid' (HK.out.trans hk1)
  clear hk1 q0 q1 q2
  generalize hcc:(corT 3 ss t).1 = cc
  generalize hdd:(corT 3 ss t).2 = dd
  have HC:=hid' (And.intro hcc hdd)
  clear hcc hdd
  go_wp2_with fail
  go_ret2
  exact ⟨HK1.out,by rw [HC.out.1,HC.out.2]; rfl⟩
 by_cases k4:k = 4
 ·
  subst k4
  have e1:IntKind.i64.wrap (t + 1) = t + 1:=by rw [IntKind.wrap_i64]; omega
  go_wp2_with fail
  go_ret2
  exact ⟨HK.out,rfl⟩
 have b2:(k == 2) = false:=by simpa using k2
 have b3:(k == 3) = false:=by simpa using k3
 have b4:(k == 4) = false:=by simpa using k4
 have HC:Hid (corT k ss t = (0,false)):=by show _ = _; unfold corT corW; rw [if_neg k2,if_neg k3,if_neg k4]
 go_wp2_with fail
 go_ret2
 exact ⟨HK.out,by rw [HC.out]; rfl⟩
theorem nxt_cor {k:Int} {vs:List (Int × Int)} {ss:List Int} {t:Int} (h:okW k vs ss = true) (ht:0≤t):nxtW k ss t = if (corT k ss t).2 = true∧okS (corT k ss t).1 = true then corT k ss t else (0,false):=by
 unfold nxtW corT
 cases hc:corW k ss t with
 | none => simp
 | some c =>
  have:=corW_gt h hc
  simp only [true_and]
  unfold okS
  by_cases h1:c≤1000000000
  ·
   rw [if_pos h1,if_pos (decide_eq_true ⟨by omega,h1⟩)]
  ·
   rw [if_neg h1,if_neg (by simp; omega)]
set_option maxHeartbeats 4000000 in
theorem next_any (k:Int) (a1 a2:Option Addr) (n c m c':Nat) (vs:List (Int × Int)) (ss:List Int) (t:Int) (w:World) (h1:NSl w (.slice a1 n c) vs) (h2:ISl w (.slice a2 m c') ss) :
  Calls Tryz.prog 10 #[.agg #[.int .i64 k,.slice a1 n c,.slice a2 m c'],.int .i64 t] w fun e w' => Kept w w'∧e = .returned (.tuple #[.int .i64 (nextW k vs ss t).1,.bool (nextW k vs ss t).2]):=by
 have HS:=hid' (And.intro h1 h2)
 clear h1 h2
 go_enter Tryz.func10,Tryz.ntmps10
 go_upto_region 1 with fail
 have hK:=(Kept.refl w).alloc (.cells #[.int .i64 k,.slice a1 n c,.slice a2 m c'] 25)
 have hR:=Row3.alloc 25 w (.int .i64 k) (.slice a1 n c) (.slice a2 m c')
 generalize w.alloc (.cells #[.int .i64 k,.slice a1 n c,.slice a2 m c'] 25) = W at hK hR ⊢
 obtain ⟨p1,hp1⟩:∃ p,p = w.heap.size:=⟨_,rfl⟩
 rw [← hp1] at hR ⊢
 have HK:=hid' hK
 have HR:=hid' hR
 have q0:=hR.c0
 have q1:=hR.c1
 have q2:=hR.c2
 clear hp1 hK hR
 go_wp2_with fail
 refine (valid_any k a1 a2 n c m c' vs ss _ (HS.out.1.kept HK.out) (HS.out.2.kept HK.out)).mono ?_
 rintro e w1 ⟨hk1,rfl⟩
 have HK1:=hid' (HK.out.trans hk1)
 have HR1:=hid' (HR.out.kept hk1)
 clear hk1 q0 q1 q2
 by_cases ho:okW k vs ss = true
 ·
  rw [ho]
  have HO:=hid' ho
  clear ho
  go_wp2_with fail
  refine (isStep_any t _).mono ?_
  rintro e w2 ⟨rfl,rfl⟩
  by_cases ht:okS t = true
  ·
   rw [ht]
   have HT:=hid' ht
   clear ht
   have q0:=HR1.out.c0
   have q1:=HR1.out.c1
   have q2:=HR1.out.c2
   go_wp2_with fail
   refine (corner_any k a1 a2 n c m c' vs ss t _ (HS.out.1.kept HK1.out) (HS.out.2.kept HK1.out) HO.out HT.out).mono ?_
   rintro e w3 ⟨hk3,rfl⟩
   have HK3:=hid' (HK1.out.trans hk3)
   have ht':0≤t:=by have:=HT.out; unfold okS at this; simp at this; exact this.1
   have HN:Hid (nextW k vs ss t = if (corT k ss t).2 = true∧okS (corT k ss t).1 = true then corT k ss t else (0,false)):=by
    show _ = _
    unfold nextW
    rw [if_pos ⟨HO.out,HT.out⟩]
    exact nxt_cor HO.out ht'
   clear hk3 q0 q1 q2 ht'
   obtain ⟨cc,hcc⟩:∃ x,x = corT k ss t:=⟨_,rfl⟩
   rw [← hcc] at HN ⊢
   clear hcc
   obtain ⟨cn,cb⟩:=cc
   cases cb
   ·
    go_wp2_with fail
    go_ret2
    exact ⟨HK3.out,by rw [HN.out]; rfl⟩
   ·
    go_wp2_with fail
    refine (isStep_any cn _).mono ?_
    rintro e w4 ⟨rfl,rfl⟩
    by_cases hs:okS cn = true
    ·
     rw [hs]
     go_wp2_with fail
     go_ret2
     exact ⟨HK3.out,by rw [HN.out,if_pos (by simp [hs])]; rfl⟩
    ·
     have hs:okS cn = false:=by simpa using hs
     rw [hs]
     go_wp2_with fail
     go_ret2
     exact ⟨HK3.out,by rw [HN.out,if_neg (by simp [hs])]; rfl⟩
  ·
   have ht:okS t = false:=by simpa using ht
   rw [ht]
   go_wp2_with fail
   go_ret2
   exact ⟨HK1.out,by unfold nextW; rw [ht,if_neg (by simp)]; rfl⟩
 ·
  have ho:okW k vs ss = false:=by simpa using ho
  rw [ho]
  go_wp2_with fail
  go_ret2
  exact ⟨HK1.out,by unfold nextW; rw [ho,if_neg (by simp)]; rfl⟩
end V
end Go.Proofs.YtgofinhnlcbafaaGreat

namespace Go.Proofs.YtgofinhnlcbafaaGreat
open Go.RowKit
namespace V
open Q (hid' Row3 Row2 okN)
def pcv (p q:Int × Int) (g L:Int):Value:=.agg #[.int .i64 p.1,.int .i64 p.2,.int .i64 q.1,.int .i64 q.2,.int .i64 g,.int .i64 L]
def PcOk (P Q:Int × Int) (g L:Int) (z:Int):Prop:=okN P.1 P.2 = true∧(g = 0 ∨ (okN Q.1 Q.2 = true∧1≤g∧g≤L∧L≤1000000000))∧z = (if g = 0 then lev P else seg P Q g L)
theorem pc_level {P Q:Int × Int} {L z:Int} (h:okN P.1 P.2 = true) (hz:z = lev P):PcOk P Q 0 L z:=⟨h,.inl rfl,by rw [if_pos rfl]; exact hz⟩
theorem pc_seg {P Q:Int × Int} {g L z:Int} (h:okN P.1 P.2 = true) (h':okN Q.1 Q.2 = true) (hg:0≤g) (hl:g < L) (hL:L≤1000000000) (hz:z = seg P Q g L):PcOk P Q g L z:=by
 by_cases h0:g = 0
 ·
  subst h0; exact ⟨h,.inl rfl,by rw [if_pos rfl,hz,seg_zero _ _ _ hl]⟩
 ·
  exact ⟨h,.inr ⟨h',by omega,by omega,hL⟩,by rw [if_neg h0]; exact hz⟩
set_option maxRecDepth 100000 in
set_option maxHeartbeats 8000000 in
theorem ppiece_any (x0 x1 x2 x3 d r b f p t:Int) (w:World) (hp:Pul d r b f p) (ht:0≤t∧t≤1000000000) (hx:okN x0 x1 = true) (hy:okN x2 x3 = true) :
  Calls Tryz.prog 36 #[.agg #[.int .i64 x0,.int .i64 x1,.int .i64 x2,.int .i64 x3,.int .i64 d,.int .i64 r,.int .i64 b,.int .i64 f,.int .i64 p],.int .i64 t] w fun e w' => Kept w w'∧∃ P Q g L,e = .returned (pcv P Q g L)∧PcOk P Q g L (sayP (x0,x1) (x2,x3) d r b f p t):=by
 obtain ⟨d0,d1,r0,b0,g0,p0,pp,hs⟩:=hp
 have HX:=hid' (And.intro hx hy)
 clear hx hy
 go_enter Tryz.func36,Tryz.ntmps36
 go_upto_region 1 with fail
 have hK:=((Kept.refl w).alloc (.cells #[.int .i64 x0,.int .i64 x1,.int .i64 x2,.int .i64 x3,.int .i64 d,.int .i64 r,.int .i64 b,.int .i64 f,.int .i64 p] 59)).alloc (.cells #[.int .i64 0,.int .i64 0,.int .i64 0,.int .i64 0,.int .i64 0,.int .i64 0] 46)
 have hR:=(rowL 59 w #[.int .i64 x0,.int .i64 x1,.int .i64 x2,.int .i64 x3,.int .i64 d,.int .i64 r,.int .i64 b,.int .i64 f,.int .i64 p]).of_block (((Kept.refl _).alloc (.cells #[.int .i64 0,.int .i64 0,.int .i64 0,.int .i64 0,.int .i64 0,.int .i64 0] 46)).block w.heap.size (rowL 59 w #[.int .i64 x0,.int .i64 x1,.int .i64 x2,.int .i64 x3,.int .i64 d,.int .i64 r,.int .i64 b,.int .i64 f,.int .i64 p]).lt)
 have hZ:=World.rowIs_alloc (w.alloc (.cells #[.int .i64 x0,.int .i64 x1,.int .i64 x2,.int .i64 x3,.int .i64 d,.int .i64 r,.int .i64 b,.int .i64 f,.int .i64 p] 59)) #[.int .i64 0,.int .i64 0,.int .i64 0,.int .i64 0,.int .i64 0,.int .i64 0] 46 (fun _ => .int .i64 0) (fun i hi => by
  match i,hi with
  | 0,_ => rfl
  | 1,_ => rfl
  | 2,_ => rfl
  | 3,_ => rfl
  | 4,_ => rfl
  | 5,_ => rfl)
 rw [World.size_alloc] at hZ
 generalize (w.alloc (.cells #[.int .i64 x0,.int .i64 x1,.int .i64 x2,.int .i64 x3,.int .i64 d,.int .i64 r,.int .i64 b,.int .i64 f,.int .i64 p] 59)).alloc (.cells #[.int .i64 0,.int .i64 0,.int .i64 0,.int .i64 0,.int .i64 0,.int .i64 0] 46) = W at hK hR hZ ⊢
 obtain ⟨p2,hp2⟩:∃ p,p = w.heap.size + 1:=⟨_,rfl⟩
 rw [← hp2] at hZ ⊢
 obtain ⟨p1,hp1⟩:∃ p,p = w.heap.size:=⟨_,rfl⟩
 rw [← hp1] at hR ⊢
 have HR:Hid (∀ V,Kept W V→V.cell? ⟨p1,0,none⟩ = some (.int .i64 x0)∧V.cell? ⟨p1,1,none⟩ = some (.int .i64 x1)∧V.cell? ⟨p1,2,none⟩ = some (.int .i64 x2)∧V.cell? ⟨p1,3,none⟩ = some (.int .i64 x3)∧V.cell? ⟨p1,4,none⟩ = some (.int .i64 d)∧V.cell? ⟨p1,5,none⟩ = some (.int .i64 r)∧V.cell? ⟨p1,6,none⟩ = some (.int .i64 b)∧V.cell? ⟨p1,7,none⟩ = some (.int .i64 f)∧V.cell? ⟨p1,8,none⟩ = some (.int .i64 p)):=fun V hV =>
  have h:=hR.of_block (hV.block p1 hR.lt)
  ⟨h.cell (i:=0) (show 0 < 9 by decide),h.cell (i:=1) (show 1 < 9 by decide),h.cell (i:=2) (show 2 < 9 by decide),h.cell (i:=3) (show 3 < 9 by decide),h.cell (i:=4) (show 4 < 9 by decide),h.cell (i:=5) (show 5 < 9 by decide),h.cell (i:=6) (show 6 < 9 by decide),h.cell (i:=7) (show 7 < 9 by decide),h.cell (i:=8) (show 8 < 9 by decide)⟩
 have HZ:Hid (∀ V,Kept W V→V.cell? ⟨p2,0,none⟩ = some (.int .i64 0)∧V.cell? ⟨p2,1,none⟩ = some (.int .i64 0)∧V.cell? ⟨p2,2,none⟩ = some (.int .i64 0)∧V.cell? ⟨p2,3,none⟩ = some (.int .i64 0)∧V.cell? ⟨p2,4,none⟩ = some (.int .i64 0)∧V.cell? ⟨p2,5,none⟩ = some (.int .i64 0)∧V.frozen? ⟨p2,0,none⟩ = false∧V.frozen? ⟨p2,1,none⟩ = false∧V.frozen? ⟨p2,2,none⟩ = false∧V.frozen? ⟨p2,3,none⟩ = false∧V.frozen? ⟨p2,4,none⟩ = false∧V.frozen? ⟨p2,5,none⟩ = false):=fun V hV =>
  have h:=hZ.of_block (hV.block p2 hZ.lt)
  ⟨h.cell (i:=0) (show 0 < 6 by decide),h.cell (i:=1) (show 1 < 6 by decide),h.cell (i:=2) (show 2 < 6 by decide),h.cell (i:=3) (show 3 < 6 by decide),h.cell (i:=4) (show 4 < 6 by decide),h.cell (i:=5) (show 5 < 6 by decide),h.frozen 0,h.frozen 1,h.frozen 2,h.frozen 3,h.frozen 4,h.frozen 5⟩
 have n21:¬ p2 = p1:=by omega
 have HP:Hid (w.heap.size≤p2):=by show _≤_; omega
 have HK:=hid' hK
 clear hp1 hp2 hK hR hZ
 obtain ⟨q0,q1,q2,q3,q4,q5,q6,q7,q8⟩:=HR.out W (Kept.refl W)
 by_cases htd:t < d
 ·
  have HE:Hid (sayP (x0,x1) (x2,x3) d r b f p t = lev (x0,x1)):=by show _ = _; unfold sayP; rw [if_pos htd]
  go_wp2_with fail
  refine (level_any x0 x1 _).mono ?_
  rintro e w1 ⟨hk1,rfl⟩
  have HK1:=hid' (HK.out.trans hk1)
  obtain ⟨z0,z1,z2,z3,z4,z5,f0,f1,f2,f3,f4,f5⟩:=HZ.out w1 hk1
  clear hk1 q0 q1 q2 q3 q4 q5 q6 q7 q8
  go_wp2_with fail
  exact bodyPost_ret (v:=pcv (x0,x1) (0,0) 0 0) (by simp [pcv,results,Tryz.results36,go_sem,z0,z1,z2,z3,z4,z5]) rfl ⟨(Kept.setCell (Kept.setCell (Kept.setCell (Kept.setCell (Kept.setCell (Kept.setCell HK1.out (p:=⟨p2,0,none⟩) HP.out _) (p:=⟨p2,1,none⟩) HP.out _) (p:=⟨p2,2,none⟩) HP.out _) (p:=⟨p2,3,none⟩) HP.out _) (p:=⟨p2,4,none⟩) HP.out _) (p:=⟨p2,5,none⟩) HP.out _),(x0,x1),(0,0),0,0,rfl,pc_level HX.out.1 HE.out⟩
 ·
  have htd':¬ t < d:=htd
  go_wp2_with fail
  refine (within_any x0 x1 x2 x3 d r b f p t _ d0 (by omega) ht.2 (by omega) pp).mono ?_
  rintro e w1 ⟨hk1,rfl⟩
  have hu0:0≤(t - d) % p:=Int.emod_nonneg _ (by omega)
  have hu1:(t - d) % p < p:=Int.emod_lt_of_pos _ (by omega)
  have HE:Hid (sayP (x0,x1) (x2,x3) d r b f p t = if (t - d) % p < r then seg (x0,x1) (x2,x3) ((t - d) % p) r else if (t - d) % p < r + b then lev (x2,x3) else if (t - d) % p < r + b + f then seg (x2,x3) (x0,x1) ((t - d) % p - (r + b)) f else lev (x0,x1)):=by show _ = _; unfold sayP; rw [if_neg (by omega)]
  obtain ⟨u,hu⟩:∃ u,u = (t - d) % p:=⟨_,rfl⟩
  rw [← hu] at hu0 hu1 HE ⊢
  clear hu q0 q1 q2 q3 q4 q5 q6 q7 q8
  obtain ⟨q0,q1,q2,q3,q4,q5,q6,q7,q8⟩:=HR.out w1 hk1
  have HK1:=hid' (And.intro (HK.out.trans hk1) hk1)
  obtain ⟨z0,z1,z2,z3,z4,z5,f0,f1,f2,f3,f4,f5⟩:=HZ.out w1 hk1
  clear hk1
  have e1:IntKind.i64.wrap (r + b) = r + b:=by rw [IntKind.wrap_i64]; omega
  have e2:IntKind.i64.wrap (r + b + f) = r + b + f:=by rw [IntKind.wrap_i64]; omega
  by_cases h1:u < r
  ·
   rw [if_pos h1] at HE
   go_wp2_with fail
   exact bodyPost_ret (v:=pcv (x0,x1) (x2,x3) u r) (by simp [pcv,results,Tryz.results36,go_sem,z0,z1,z2,z3,z4,z5]) rfl ⟨(Kept.setCell (Kept.setCell (Kept.setCell (Kept.setCell (Kept.setCell (Kept.setCell HK1.out.1 (p:=⟨p2,0,none⟩) HP.out _) (p:=⟨p2,1,none⟩) HP.out _) (p:=⟨p2,2,none⟩) HP.out _) (p:=⟨p2,3,none⟩) HP.out _) (p:=⟨p2,4,none⟩) HP.out _) (p:=⟨p2,5,none⟩) HP.out _),(x0,x1),(x2,x3),u,r,rfl,pc_seg HX.out.1 HX.out.2 hu0 h1 (by omega) HE.out⟩
  rw [if_neg h1] at HE
  by_cases h2:u < r + b
  ·
   rw [if_pos h2] at HE
   go_wp2_with fail
   refine (level_any x2 x3 _).mono ?_
   rintro e w2 ⟨hk2,rfl⟩
   have HK2:=hid' (HK1.out.1.trans hk2)
   clear z0 z1 z2 z3 z4 z5 f0 f1 f2 f3 f4 f5
   obtain ⟨z0,z1,z2,z3,z4,z5,f0,f1,f2,f3,f4,f5⟩:=HZ.out w2 (HK1.out.2.trans hk2)
   clear hk2 q0 q1 q2 q3 q4 q5 q6 q7 q8
   go_wp2_with fail
   exact bodyPost_ret (v:=pcv (x2,x3) (0,0) 0 0) (by simp [pcv,results,Tryz.results36,go_sem,z0,z1,z2,z3,z4,z5]) rfl ⟨(Kept.setCell (Kept.setCell (Kept.setCell (Kept.setCell (Kept.setCell (Kept.setCell HK2.out (p:=⟨p2,0,none⟩) HP.out _) (p:=⟨p2,1,none⟩) HP.out _) (p:=⟨p2,2,none⟩) HP.out _) (p:=⟨p2,3,none⟩) HP.out _) (p:=⟨p2,4,none⟩) HP.out _) (p:=⟨p2,5,none⟩) HP.out _),(x2,x3),(0,0),0,0,rfl,pc_level HX.out.2 HE.out⟩
  rw [if_neg h2] at HE
  by_cases h3:u < r + b + f
  ·
   rw [if_pos h3] at HE
   have e3:IntKind.i64.wrap (u - (r + b)) = u - (r + b):=by rw [IntKind.wrap_i64]; omega
   go_wp2_with fail
   exact bodyPost_ret (v:=pcv (x2,x3) (x0,x1) (u - (r + b)) f) (by simp [pcv,results,Tryz.results36,go_sem,z0,z1,z2,z3,z4,z5]) rfl ⟨(Kept.setCell (Kept.setCell (Kept.setCell (Kept.setCell (Kept.setCell (Kept.setCell HK1.out.1 (p:=⟨p2,0,none⟩) HP.out _) (p:=⟨p2,1,none⟩) HP.out _) (p:=⟨p2,2,none⟩) HP.out _) (p:=⟨p2,3,none⟩) HP.out _) (p:=⟨p2,4,none⟩) HP.out _) (p:=⟨p2,5,none⟩) HP.out _),(x2,x3),(x0,x1),(u - (r + b)),f,rfl,pc_seg HX.out.2 HX.out.1 (by omega) (by omega) (by omega) HE.out⟩
  ·
   rw [if_neg h3] at HE
   go_wp2_with fail
   refine (level_any x0 x1 _).mono ?_
   rintro e w2 ⟨hk2,rfl⟩
   have HK2:=hid' (HK1.out.1.trans hk2)
   clear z0 z1 z2 z3 z4 z5 f0 f1 f2 f3 f4 f5
   obtain ⟨z0,z1,z2,z3,z4,z5,f0,f1,f2,f3,f4,f5⟩:=HZ.out w2 (HK1.out.2.trans hk2)
   clear hk2 q0 q1 q2 q3 q4 q5 q6 q7 q8
   go_wp2_with fail
   exact bodyPost_ret (v:=pcv (x0,x1) (0,0) 0 0) (by simp [pcv,results,Tryz.results36,go_sem,z0,z1,z2,z3,z4,z5]) rfl ⟨(Kept.setCell (Kept.setCell (Kept.setCell (Kept.setCell (Kept.setCell (Kept.setCell HK2.out (p:=⟨p2,0,none⟩) HP.out _) (p:=⟨p2,1,none⟩) HP.out _) (p:=⟨p2,2,none⟩) HP.out _) (p:=⟨p2,3,none⟩) HP.out _) (p:=⟨p2,4,none⟩) HP.out _) (p:=⟨p2,5,none⟩) HP.out _),(x0,x1),(0,0),0,0,rfl,pc_level HX.out.1 HE.out⟩
end V
end Go.Proofs.YtgofinhnlcbafaaGreat

namespace Go.Proofs.YtgofinhnlcbafaaGreat
open Go.RowKit
namespace V
open Q (hid' Row3 Row2 okN)
set_option maxRecDepth 100000 in
set_option maxHeartbeats 8000000 in
theorem qpiece_any (k:Int) (a1 a2:Option Addr) (n c m c':Nat) (vs:List (Int × Int)) (ss:List Int) (t:Int) (w:World) (h1:NSl w (.slice a1 n c) vs) (h2:ISl w (.slice a2 m c') ss) (ht:0≤t∧t≤1000000000) (ho:okW 3 vs ss = true) :
  Calls Tryz.prog 37 #[.agg #[.int .i64 k,.slice a1 n c,.slice a2 m c'],.int .i64 t] w fun e w' => Kept w w'∧∃ P Q g L,e = .returned (pcv P Q g L)∧PcOk P Q g L (sayQ vs ss t):=by
 obtain ⟨ht0,ht1⟩:=ht
 obtain ⟨hf,hv,hs,hh⟩:=okW_parts ho
 have hf:=fits3 hf
 have hr:∀ i,i + 1 < ss.length→ss.getD i 0 < ss.getD (i + 1) 0:=(riseB_iff ss).1 (by unfold hangB at hh; simpa using hh)
 have HF:Hid ((1≤n∧n≤16∧m = n)∧n = vs.length∧m = ss.length):=by have hln:=h1.len; have hlm:=h2.len; exact ⟨by omega,hln,hlm⟩
 have HV:Hid (∀ i,i < vs.length→okN (vs.getD i (0,0)).1 (vs.getD i (0,0)).2 = true):=fun i hi => by
  rw [List.all_eq_true] at hv
  exact hv (vs.getD i (0,0)) (by rw [List.getD_eq_getElem?_getD,List.getElem?_eq_getElem hi]; exact List.getElem_mem hi)
 have HS:=hid' (And.intro h1 (And.intro h2 (And.intro hs hr)))
 clear h1 h2 ho hv hs hh hr hf
 go_enter Tryz.func37,Tryz.ntmps37
 go_upto_region 1 with fail
 have hK:=((Kept.refl w).alloc (.cells #[.int .i64 k,.slice a1 n c,.slice a2 m c'] 25)).alloc (.cells #[.int .i64 0,.int .i64 0,.int .i64 0,.int .i64 0,.int .i64 0,.int .i64 0] 46)
 have hR:=(Row3.alloc 25 w (.int .i64 k) (.slice a1 n c) (.slice a2 m c')).kept ((Kept.refl _).alloc (.cells #[.int .i64 0,.int .i64 0,.int .i64 0,.int .i64 0,.int .i64 0,.int .i64 0] 46))
 have hZ:=World.rowIs_alloc (w.alloc (.cells #[.int .i64 k,.slice a1 n c,.slice a2 m c'] 25)) #[.int .i64 0,.int .i64 0,.int .i64 0,.int .i64 0,.int .i64 0,.int .i64 0] 46 (fun _ => .int .i64 0) (fun i hi => by
  match i,hi with
  | 0,_ => rfl
  | 1,_ => rfl
  | 2,_ => rfl
  | 3,_ => rfl
  | 4,_ => rfl
  | 5,_ => rfl)
 rw [World.size_alloc] at hZ
 generalize (w.alloc (.cells #[.int .i64 k,.slice a1 n c,.slice a2 m c'] 25)).alloc (.cells #[.int .i64 0,.int .i64 0,.int .i64 0,.int .i64 0,.int .i64 0,.int .i64 0] 46) = W at hK hR hZ ⊢
 obtain ⟨p2,hp2⟩:∃ p,p = w.heap.size + 1:=⟨_,rfl⟩
 rw [← hp2] at hZ ⊢
 obtain ⟨p1,hp1⟩:∃ p,p = w.heap.size:=⟨_,rfl⟩
 rw [← hp1] at hR ⊢
 have HZ:Hid (∀ V,Kept W V→V.cell? ⟨p2,0,none⟩ = some (.int .i64 0)∧V.cell? ⟨p2,1,none⟩ = some (.int .i64 0)∧V.cell? ⟨p2,2,none⟩ = some (.int .i64 0)∧V.cell? ⟨p2,3,none⟩ = some (.int .i64 0)∧V.cell? ⟨p2,4,none⟩ = some (.int .i64 0)∧V.cell? ⟨p2,5,none⟩ = some (.int .i64 0)∧V.frozen? ⟨p2,0,none⟩ = false∧V.frozen? ⟨p2,1,none⟩ = false∧V.frozen? ⟨p2,2,none⟩ = false∧V.frozen? ⟨p2,3,none⟩ = false∧V.frozen? ⟨p2,4,none⟩ = false∧V.frozen? ⟨p2,5,none⟩ = false):=fun V hV =>
  have h:=hZ.of_block (hV.block p2 hZ.lt)
  ⟨h.cell (i:=0) (show 0 < 6 by decide),h.cell (i:=1) (show 1 < 6 by decide),h.cell (i:=2) (show 2 < 6 by decide),h.cell (i:=3) (show 3 < 6 by decide),h.cell (i:=4) (show 4 < 6 by decide),h.cell (i:=5) (show 5 < 6 by decide),h.frozen 0,h.frozen 1,h.frozen 2,h.frozen 3,h.frozen 4,h.frozen 5⟩
 have n21:¬ p2 = p1:=by omega
 have HP:Hid (w.heap.size≤p2∧∀ b,b < w.heap.size→¬ p2 = b):=⟨by omega,fun b hb => by omega⟩
 have HK:=hid' hK
 have HR:=hid' hR
 have q2:=hR.c2
 clear hp1 hp2 hK hR hZ
 go_wp2_with fail
 refine (firstAbove_any a2 m c' ss t _ (HS.out.2.1.kept HK.out) (by have:=HF.out; omega)).mono ?_
 rintro e w1 ⟨hk1,rfl⟩
 have hF:=HF.out
 have HK1:=hid' (And.intro (HK.out.trans hk1) hk1)
 have q1:=(HR.out.kept hk1).c1
 have q2:=(HR.out.kept hk1).c2
 have hle:=fa_le ss t
 obtain ⟨ao1,cap1,hv1,hx1⟩:=HS.out.1
 simp only [Value.slice.injEq] at hv1
 obtain ⟨rfl,hl1,rfl⟩:=hv1
 obtain ⟨b1,o1,rfl,hb1,hc1⟩:=hx1 (by omega)
 obtain ⟨ao2,cap2,hv2,hx2⟩:=HS.out.2.1
 simp only [Value.slice.injEq] at hv2
 obtain ⟨rfl,hl2,rfl⟩:=hv2
 obtain ⟨b2,o2,rfl,hb2,hc2⟩:=hx2 (by omega)
 have HC:Hid (∀ V,Kept w V→(∀ j,j < n→V.cell? ⟨b1,o1 + j * 2,none⟩ = some (.int .i64 (vs.getD j (0,0)).1)∧V.cell? ⟨b1,o1 + j * 2 + 1,none⟩ = some (.int .i64 (vs.getD j (0,0)).2))∧(∀ j,j < m→V.cell? ⟨b2,o2 + j,none⟩ = some (.int .i64 (ss.getD j 0)))):=fun V hV => ⟨fun j hj => by rw [Below.cell hV (p:=⟨b1,o1 + j * 2,none⟩) hb1,Below.cell hV (p:=⟨b1,o1 + j * 2 + 1,none⟩) hb1]; exact hc1 j (by omega),fun j hj => by rw [Below.cell hV (p:=⟨b2,o2 + j,none⟩) hb2]; exact hc2 j (by omega)⟩
 have nb1:=HP.out.2 b1 hb1
 have nb2:=HP.out.2 b2 hb2
 have HP:Hid (w.heap.size≤p2):=HP.out.1
 clear hx1 hx2 hc1 hc2 hb1 hb2 hk1
 by_cases hf1:fa ss t = ss.length
 ·
  have hfi:fai ss t = -1:=by unfold fai; rw [if_pos hf1]
  have HE:Hid (sayQ vs ss t = lev (vs.getD (vs.length - 1) (0,0))):=by show _ = _; unfold sayQ; rw [if_pos hf1]
  rw [hfi]
  obtain ⟨u0,u1⟩:=(HC.out w1 HK1.out.1).1 (n - 1) (by omega)
  have HO:Hid (okN (vs.getD (vs.length - 1) (0,0)).1 (vs.getD (vs.length - 1) (0,0)).2 = true):=HV.out _ (by omega)
  rw [show vs.length - 1 = n - 1 by omega] at HE HO
  generalize vs.getD (n - 1) (0,0) = y at u0 u1 HE HO
  obtain ⟨y0,y1⟩:=y
  have e1:IntKind.i64.wrap ((n:Int) - 1) = ((n - 1:Nat):Int):=by rw [IntKind.wrap_i64]; omega
  have e2:((n - 1:Nat):Int) < (n:Int):=by omega
  obtain ⟨i,hi⟩:∃ i,i = n - 1:=⟨_,rfl⟩
  rw [← hi] at u0 u1 e1 e2
  clear hi hf1 hfi hle hF hl1 hl2
  go_wp2_with fail
  refine (level_any y0 y1 _).mono ?_
  rintro e w2 ⟨hk2,rfl⟩
  have HK2:=hid' (HK1.out.1.trans hk2)
  obtain ⟨z0,z1,z2,z3,z4,z5,f0,f1,f2,f3,f4,f5⟩:=HZ.out w2 (HK1.out.2.trans hk2)
  clear hk2 q1 q2 u0 u1
  go_wp2_with fail
  exact bodyPost_ret (v:=pcv (y0,y1) (0,0) 0 0) (by simp [pcv,results,Tryz.results37,go_sem,z0,z1,z2,z3,z4,z5]) rfl ⟨(Kept.setCell (Kept.setCell (Kept.setCell (Kept.setCell (Kept.setCell (Kept.setCell HK2.out (p:=⟨p2,0,none⟩) HP.out _) (p:=⟨p2,1,none⟩) HP.out _) (p:=⟨p2,2,none⟩) HP.out _) (p:=⟨p2,3,none⟩) HP.out _) (p:=⟨p2,4,none⟩) HP.out _) (p:=⟨p2,5,none⟩) HP.out _),(y0,y1),(0,0),0,0,rfl,pc_level HO.out HE.out⟩
 have hfi:fai ss t = (fa ss t:Int):=by unfold fai; rw [if_neg hf1]
 rw [hfi]
 have hlt:fa ss t < m:=by omega
 have hat:=fa_at (l:=ss) (t:=t) (by omega)
 by_cases hf2:fa ss t = 0
 ·
  have HE:Hid (sayQ vs ss t = lev (vs.getD 0 (0,0))):=by show _ = _; unfold sayQ; rw [if_neg hf1,if_pos hf2]
  rw [hf2]
  obtain ⟨u0,u1⟩:=(HC.out w1 HK1.out.1).1 0 (by omega)
  have HO:=hid' (HV.out 0 (by omega))
  generalize vs.getD 0 (0,0) = y at u0 u1 HE HO
  obtain ⟨y0,y1⟩:=y
  have e2:(0:Int) < (n:Int):=by omega
  simp only [Nat.zero_mul,Nat.add_zero] at u0 u1
  clear hf1 hf2 hfi hle hlt hat hF hl1 hl2
  go_wp2_with fail
  refine (level_any y0 y1 _).mono ?_
  rintro e w2 ⟨hk2,rfl⟩
  have HK2:=hid' (HK1.out.1.trans hk2)
  obtain ⟨z0,z1,z2,z3,z4,z5,f0,f1,f2,f3,f4,f5⟩:=HZ.out w2 (HK1.out.2.trans hk2)
  clear hk2 q1 q2 u0 u1
  go_wp2_with fail
  exact bodyPost_ret (v:=pcv (y0,y1) (0,0) 0 0) (by simp [pcv,results,Tryz.results37,go_sem,z0,z1,z2,z3,z4,z5]) rfl ⟨(Kept.setCell (Kept.setCell (Kept.setCell (Kept.setCell (Kept.setCell (Kept.setCell HK2.out (p:=⟨p2,0,none⟩) HP.out _) (p:=⟨p2,1,none⟩) HP.out _) (p:=⟨p2,2,none⟩) HP.out _) (p:=⟨p2,3,none⟩) HP.out _) (p:=⟨p2,4,none⟩) HP.out _) (p:=⟨p2,5,none⟩) HP.out _),(y0,y1),(0,0),0,0,rfl,pc_level HO.out HE.out⟩
 ·
  obtain ⟨i,hi⟩:∃ i,fa ss t = i + 1:=⟨fa ss t - 1,by omega⟩
  have HE:Hid (sayQ vs ss t = seg (vs.getD i (0,0)) (vs.getD (i + 1) (0,0)) (t - ss.getD i 0) (ss.getD (i + 1) 0 - ss.getD i 0)):=by show _ = _; unfold sayQ; rw [if_neg hf1,if_neg hf2,hi]; rfl
  have hbl:=fa_below (l:=ss) (t:=t) (j:=i) (by omega)
  have s0:=okS_all HS.out.2.2.1 i (by omega)
  have s1:=okS_all HS.out.2.2.1 (i + 1) (by omega)
  have HO:=hid' (And.intro (HV.out i (by omega)) (HV.out (i + 1) (by omega)))
  obtain ⟨u0,u1⟩:=(HC.out w1 HK1.out.1).1 i (by omega)
  obtain ⟨u2,u3⟩:=(HC.out w1 HK1.out.1).1 (i + 1) (by omega)
  have v0:=(HC.out w1 HK1.out.1).2 i (by omega)
  have v1:=(HC.out w1 HK1.out.1).2 (i + 1) (by omega)
  rw [hi] at hat hlt ⊢
  generalize vs.getD i (0,0) = y at *
  generalize vs.getD (i + 1) (0,0) = y' at *
  generalize ss.getD i 0 = x at *
  generalize ss.getD (i + 1) 0 = x' at *
  obtain ⟨y0,y1⟩:=y
  obtain ⟨y2,y3⟩:=y'
  have e1:IntKind.i64.wrap ((i:Int) + 1 - 1) = (i:Int):=by rw [IntKind.wrap_i64]; omega
  have e1':IntKind.i64.wrap (i:Int) = (i:Int):=by rw [IntKind.wrap_i64]; omega
  have e2:(i:Int) < (n:Int):=by omega
  have e3:(i:Int) + 1 < (n:Int):=by omega
  have e4:(i:Int) < (m:Int):=by omega
  have e5:(i:Int) + 1 < (m:Int):=by omega
  have e6:((i:Int) + 1).toNat = i + 1:=by omega
  have e7:(0:Int)≤(i:Int) + 1:=by omega
  have e8:IntKind.i64.wrap (t - x) = t - x:=by rw [IntKind.wrap_i64]; omega
  have e9:IntKind.i64.wrap (x' - x) = x' - x:=by rw [IntKind.wrap_i64]; omega
  have e10:¬ (i:Int) + 1 = -1:=by omega
  have e11:¬ (i:Int) + 1 = 0:=by omega
  have e12:((i:Int) + 1 == -1) = false:=by simpa using e10
  have e13:((i:Int) + 1 == 0) = false:=by simpa using e11
  have HQ:Hid (PcOk (y0,y1) (y2,y3) (t - x) (x' - x) (sayQ vs ss t)):=pc_seg HO.out.1 HO.out.2 (by omega) (by omega) (by omega) HE.out
  push_cast
  obtain ⟨z0,z1,z2,z3,z4,z5,f0,f1,f2,f3,f4,f5⟩:=HZ.out w1 HK1.out.2
  clear hf1 hf2 hfi hle hlt hat hi hbl s0 s1 hF hl1 hl2
  dsimp only at u0 u1 u2 u3
  go_upto_region 7 with fail
  go_region_held3 (fun w' => w'.cell? ⟨p1,2,none⟩ = some (.slice (some ⟨b2,o2,none⟩) m c')∧w'.cell? ⟨b2,o2 + i,none⟩ = some (.int .i64 x)∧w'.cell? ⟨b2,o2 + (i + 1),none⟩ = some (.int .i64 x')) (go_keep) (fail)
  have K8:Hid (Kept w w1.drew):=HK1.out.1.drew
  replace q1:w1.drew.cell? ⟨p1,1,none⟩ = some (.slice (some ⟨b1,o1,none⟩) n c):=q1
  replace u0:w1.drew.cell? ⟨b1,o1 + i * 2,none⟩ = some (.int .i64 y0):=u0
  replace u1:w1.drew.cell? ⟨b1,o1 + i * 2 + 1,none⟩ = some (.int .i64 y1):=u1
  replace u2:w1.drew.cell? ⟨b1,o1 + (i + 1) * 2,none⟩ = some (.int .i64 y2):=u2
  replace u3:w1.drew.cell? ⟨b1,o1 + (i + 1) * 2 + 1,none⟩ = some (.int .i64 y3):=u3
  replace z0:w1.drew.cell? ⟨p2,0,none⟩ = some (.int .i64 0):=z0
  replace f0:w1.drew.frozen? ⟨p2,0,none⟩ = false:=f0
  replace z1:w1.drew.cell? ⟨p2,1,none⟩ = some (.int .i64 0):=z1
  replace f1:w1.drew.frozen? ⟨p2,1,none⟩ = false:=f1
  replace z2:w1.drew.cell? ⟨p2,2,none⟩ = some (.int .i64 0):=z2
  replace f2:w1.drew.frozen? ⟨p2,2,none⟩ = false:=f2
  replace z3:w1.drew.cell? ⟨p2,3,none⟩ = some (.int .i64 0):=z3
  replace f3:w1.drew.frozen? ⟨p2,3,none⟩ = false:=f3
  replace z4:w1.drew.cell? ⟨p2,4,none⟩ = some (.int .i64 0):=z4
  replace f4:w1.drew.frozen? ⟨p2,4,none⟩ = false:=f4
  replace z5:w1.drew.cell? ⟨p2,5,none⟩ = some (.int .i64 0):=z5
  replace f5:w1.drew.frozen? ⟨p2,5,none⟩ = false:=f5
  go_upto_region 8 with fail
  generalize w1.drew = W8 at *
  clear HF HV HS HC HZ HR HO HE HK HK1 q2 v0 v1
  go_region_held3 (fun w' => w'.cell? ⟨p1,1,none⟩ = some (.slice (some ⟨b1,o1,none⟩) n c)∧w'.cell? ⟨b1,o1 + i * 2,none⟩ = some (.int .i64 y0)∧w'.cell? ⟨b1,o1 + i * 2 + 1,none⟩ = some (.int .i64 y1)∧w'.cell? ⟨b1,o1 + (i + 1) * 2,none⟩ = some (.int .i64 y2)∧w'.cell? ⟨b1,o1 + (i + 1) * 2 + 1,none⟩ = some (.int .i64 y3)) (go_keep) (fail)
  go_wp2
  exact bodyPost_ret (v:=pcv (y0,y1) (y2,y3) (t - x) (x' - x)) (by simp [pcv,results,Tryz.results37,go_sem,z0,z1,z2,z3,z4,z5]) rfl ⟨(Kept.setCell (Kept.setCell (Kept.setCell (Kept.setCell (Kept.setCell (Kept.setCell K8.out (p:=⟨p2,0,none⟩) HP.out _) (p:=⟨p2,1,none⟩) HP.out _) (p:=⟨p2,2,none⟩) HP.out _) (p:=⟨p2,3,none⟩) HP.out _) (p:=⟨p2,4,none⟩) HP.out _) (p:=⟨p2,5,none⟩) HP.out _).drew,(y0,y1),(y2,y3),(t - x),(x' - x),rfl,HQ.out⟩
end V
end Go.Proofs.YtgofinhnlcbafaaGreat

namespace Go.Proofs.YtgofinhnlcbafaaGreat
open Go.RowKit
namespace V
open Q (okN okN_bd Scl RQ hid' Row3 Row2)
theorem rt_of_make {B:Nat} {w:World} {v:Value} {X Y g a b:Int} (h:F.RatN B w v X Y) (h1:X * g = a) (h2:Y * g = b) (hb:0≤b):RT B w v a b.toNat:=by
 obtain ⟨s,ao,k,c,l,t,ap,k',c',l',rfl,n1,r1,rfl,n2,r2,rfl,hr⟩:=h
 obtain rfl:=hr.sgn
 have e1:M.int false l' = (M.val l':Int):=rfl
 refine ⟨_,_,⟨s,ao,ap,k,c,k',c',l,l',rfl,n1,n2,hr,rfl,rfl⟩,?_⟩
 have hp:=hr.pos
 rw [e1] at h2 hp
 rw [← h1,Int.toNat_of_nonneg hb,← h2]
 simp only [Int.mul_assoc,Int.mul_comm,Int.mul_left_comm]
theorem RT.put4 {B p:Nat} {w:World} {v:Value} {A:Int} {S:Nat} {y0 y1 y2 y3:Value} (h:RT B w v A S) (hr:F.RRow w p y0 y1 y2 y3) (x0 x1 x2 x3:Value):RT B (Q.put4 w p x0 x1 x2 x3) v A S:=by
 obtain ⟨N,D,⟨s,ao,ap,k,c,k',c',l,l',rfl,n1,n2,r⟩,e⟩:=h
 exact ⟨N,D,⟨s,ao,ap,k,c,k',c',l,l',rfl,Q.New.put4 n1 hr (by decide) _ _ _ _,Q.New.put4 n2 hr (by decide) _ _ _ _,r⟩,e⟩
set_option maxRecDepth 100000 in
set_option maxHeartbeats 8000000 in
theorem over_any (a b:Int) (ha:1≤a∧a≤1000000000) (hb:1≤b∧b≤1000000000) (w:World) :
  Calls Tryz.prog 43 #[.int .i64 a,.int .i64 b] w fun e w' => Kept w w'∧∃ u,e = .returned u∧RT w.heap.size w' u a b.toNat:=by
 go_enter Tryz.func43,Tryz.ntmps43
 obtain ⟨x,rfl⟩:∃ x:Nat,a = (x:Int):=⟨a.toNat,by omega⟩
 obtain ⟨y,rfl⟩:∃ y:Nat,b = (y:Int):=⟨b.toNat,by omega⟩
 go_wp2_with fail
 have hK:=(((Kept.refl w).alloc (.cells #[.bool false,.slice none 0 0,.bool false,.slice none 0 0] 68)).alloc (.cells #[.int .u32 (x:Int)] 88)).alloc (.cells #[.int .u32 (y:Int)] 88)
 have hR:=(F.RRow.alloc w (.bool false) (.slice none 0 0) (.bool false) (.slice none 0 0)).kept (((Kept.refl _).alloc (.cells #[.int .u32 (x:Int)] 88)).alloc (.cells #[.int .u32 (y:Int)] 88))
 have n1:=(Q.new_one (w.alloc (.cells #[.bool false,.slice none 0 0,.bool false,.slice none 0 0] 68)) x (by omega)).kept ((Kept.refl _).alloc (.cells #[.int .u32 (y:Int)] 88))
 have n2:=Q.new_one ((w.alloc (.cells #[.bool false,.slice none 0 0,.bool false,.slice none 0 0] 68)).alloc (.cells #[.int .u32 (x:Int)] 88)) y (by omega)
 simp only [World.size_alloc] at n1 n2
 generalize ((w.alloc (.cells #[.bool false,.slice none 0 0,.bool false,.slice none 0 0] 68)).alloc (.cells #[.int .u32 (x:Int)] 88)).alloc (.cells #[.int .u32 (y:Int)] 88) = W at hK hR n1 n2 ⊢
 refine (F.Make_ok false false _ _ 1 1 1 1 [x] [y] W n1.sl n2.sl (Q.ratR_one false x (by omega)).ra (Q.ratR_one false y (by omega)).ra (by simp)).mono ?_
 rintro e w1 ⟨hk1,v,X,Y,rfl,hN,g,hg,hX,hY,hgn⟩
 have hT:RT W.heap.size w1 v (x:Int) y:=by
  have ex:M.int false [x] = (x:Int):=by show ((x + 4294967296 * 0:Nat):Int) = _; simp
  have ey:M.int false [y] = (y:Int):=by show ((y + 4294967296 * 0:Nat):Int) = _; simp
  rw [ex] at hX
  rw [ey] at hY
  exact rt_of_make hN hX hY (by omega)
 have HR1:=hid' (hR.kept hk1)
 have HK1:=hid' (hK.trans hk1)
 have HW:=hid' hK.size
 obtain ⟨p1,hp1⟩:∃ p,p = w.heap.size:=⟨_,rfl⟩
 rw [← hp1] at HR1
 simp only [← hp1]
 obtain ⟨s,ao,ap,k,c,k',c',rfl⟩:=hT.shape
 have HT:=hid' hT
 have HP:Hid (w.heap.size≤p1):=by show _≤_; omega
 clear hK hR n1 n2 hN hX hY hg hgn hk1 hT hp1
 have HQ:Hid (∀ X,F.RRow (w1.alloc X) p1 (.bool false) (.slice none 0 0) (.bool false) (.slice none 0 0)):=fun X => HR1.out.kept ((Kept.refl w1).alloc X)
 have q0:∀ X,(w1.alloc X).cell? ⟨p1,0,none⟩ = some (.bool false):=fun X => (HQ.out X).c0
 have q1:∀ X,(w1.alloc X).cell? ⟨p1,1,none⟩ = some (.slice none 0 0):=fun X => (HQ.out X).c1
 have q2:∀ X,(w1.alloc X).cell? ⟨p1,2,none⟩ = some (.bool false):=fun X => (HQ.out X).c2
 have q3:∀ X,(w1.alloc X).cell? ⟨p1,3,none⟩ = some (.slice none 0 0):=fun X => (HQ.out X).c3
 have f0:∀ X,(w1.alloc X).frozen? ⟨p1,0,none⟩ = false:=fun X => (HQ.out X).fz 0
 have f1:∀ X,(w1.alloc X).frozen? ⟨p1,1,none⟩ = false:=fun X => (HQ.out X).fz 1
 have f2:∀ X,(w1.alloc X).frozen? ⟨p1,2,none⟩ = false:=fun X => (HQ.out X).fz 2
 have f3:∀ X,(w1.alloc X).frozen? ⟨p1,3,none⟩ = false:=fun X => (HQ.out X).fz 3
 go_wp2_with fail
 exact bodyPost_ret (v:=.agg #[.bool s,.slice ao k c,.bool false,.slice ap k' c']) (by simp [results,Tryz.results43,go_sem,q0,q1,q2,q3]) rfl ⟨Q.Kept.put4 (HK1.out.alloc _) HP.out _ _ _ _,_,rfl,((HT.out.kept ((Kept.refl w1).alloc _)).put4 (HQ.out _) _ _ _ _).mono HW.out⟩
end V
end Go.Proofs.YtgofinhnlcbafaaGreat

namespace Go.Proofs.YtgofinhnlcbafaaGreat
open Go.RowKit
namespace V
open Q (okN okN_bd Scl RQ hid' Row3 Row2)
theorem rrow_put4 {w:World} {p:Nat} {x0 x1 x2 x3:Value} (h:F.RRow w p x0 x1 x2 x3) (y0 y1 y2 y3:Value):F.RRow (Q.put4 w p y0 y1 y2 y3) p y0 y1 y2 y3 :=
  ((World.rowIs.set (World.rowIs.set (World.rowIs.set (World.rowIs.set h 0 y0) 1 y1) 2 y2) 3 y3).congr fun i hi => by
    match i,hi with
    | 0,_ => rfl
    | 1,_ => rfl
    | 2,_ => rfl
    | 3,_ => rfl)
set_option maxRecDepth 100000 in
set_option maxHeartbeats 8000000 in
theorem onGrid_any (m x m' x' g L:Int) (w:World) (h:okN m x = true) (h':g = 0 ∨ (okN m' x' = true∧1≤g∧g≤L∧L≤1000000000)) :
    Calls Tryz.prog 24 #[.agg #[.int .i64 m,.int .i64 x,.int .i64 m',.int .i64 x',.int .i64 g,.int .i64 L]] w fun e w' => Kept w w'∧∃ z,z = (if g = 0 then lev (m,x) else seg (m,x) (m',x') g L)∧e = .returned (.tuple #[.int .i64 (F.gridV z),.int .i64 (F.gridE z)]):=by
  go_enter Tryz.func24,Tryz.ntmps24
  go_upto_region 1 with fail
  have hK:=(Kept.refl w).alloc (.cells #[.int .i64 m,.int .i64 x,.int .i64 m',.int .i64 x',.int .i64 g,.int .i64 L] 46)
  have hR:=rowL 46 w #[.int .i64 m,.int .i64 x,.int .i64 m',.int .i64 x',.int .i64 g,.int .i64 L]
  generalize w.alloc (.cells #[.int .i64 m,.int .i64 x,.int .i64 m',.int .i64 x',.int .i64 g,.int .i64 L] 46) = W at hK hR ⊢
  obtain ⟨p1,hp1⟩:∃ p,p = w.heap.size:=⟨_,rfl⟩
  rw [← hp1] at hR ⊢
  have HR:Hid (∀ V,Kept W V→V.cell? ⟨p1,0,none⟩ = some (.int .i64 m)∧V.cell? ⟨p1,1,none⟩ = some (.int .i64 x)∧V.cell? ⟨p1,2,none⟩ = some (.int .i64 m')∧V.cell? ⟨p1,3,none⟩ = some (.int .i64 x')∧V.cell? ⟨p1,4,none⟩ = some (.int .i64 g)∧V.cell? ⟨p1,5,none⟩ = some (.int .i64 L)):=fun V hV =>
    have h:=hR.of_block (hV.block p1 hR.lt)
    ⟨h.cell (i:=0) (show 0 < 6 by decide),h.cell (i:=1) (show 1 < 6 by decide),h.cell (i:=2) (show 2 < 6 by decide),h.cell (i:=3) (show 3 < 6 by decide),h.cell (i:=4) (show 4 < 6 by decide),h.cell (i:=5) (show 5 < 6 by decide)⟩
  have HK:=hid' hK
  clear hp1 hK hR
  obtain ⟨q0,q1,q2,q3,q4,q5⟩:=HR.out W (Kept.refl W)
  by_cases hg:g = 0
  · subst hg
    go_wp2_with fail
    refine (grid_u m x h _).mono ?_
    rintro e w1 ⟨hk1,rfl⟩
    have HK1:=hid' (HK.out.trans hk1)
    clear hk1 q0 q1 q2 q3 q4 q5
    generalize hgv:F.gridV (F.near (U m x) 1000000000) = gv
    generalize hge:F.gridE (F.near (U m x) 1000000000) = ge
    have HG:=hid' (And.intro hgv hge)
    clear hgv hge
    go_wp2_with fail
    go_ret2
    exact ⟨HK1.out,by show Ending.returned (.tuple #[.int .i64 gv,.int .i64 ge]) = Ending.returned (.tuple #[.int .i64 (F.gridV (F.near (U m x) 1000000000)),.int .i64 (F.gridE (F.near (U m x) 1000000000))]); rw [HG.out.1,HG.out.2]⟩
  · have hgb:(g == 0) = false:=by simpa using hg
    have hh:okN m' x' = true∧1≤g∧g≤L∧L≤1000000000:=by
      rcases h' with h0 | h0
      · exact absurd h0 hg
      · exact h0
    have HH:=hid' hh
    clear hh h'
    go_wp2_with fail
    refine (rt_value m x h _).mono ?_
    rintro e w1 ⟨hk1,v1,rfl,t1⟩
    obtain ⟨s1,ao1,ap1,k1,c1,j1,d1,rfl⟩:=t1.shape
    have HT1:=hid' t1
    have HK1:=hid' hk1
    clear t1 hk1 q0 q1 q2 q3 q4 q5
    go_upto_region 4 with fail
    have k2:=(Kept.refl w1).alloc (.cells #[.bool s1,.slice ao1 k1 c1,.bool false,.slice ap1 j1 d1] 68)
    have r2:=F.RRow.alloc w1 (.bool s1) (.slice ao1 k1 c1) (.bool false) (.slice ap1 j1 d1)
    generalize w1.alloc (.cells #[.bool s1,.slice ao1 k1 c1,.bool false,.slice ap1 j1 d1] 68) = W1 at k2 r2 ⊢
    obtain ⟨p2,hp2⟩:∃ p,p = w1.heap.size:=⟨_,rfl⟩
    rw [← hp2] at r2 ⊢
    have HA1:Hid (Kept W W1∧F.RRow W1 p2 (.bool s1) (.slice ao1 k1 c1) (.bool false) (.slice ap1 j1 d1)∧RT 0 W1 (.agg #[.bool s1,.slice ao1 k1 c1,.bool false,.slice ap1 j1 d1]) (U m x) (10 ^ 18)):=⟨HK1.out.trans k2,r2,(HT1.out.kept k2).mono (Nat.zero_le _)⟩
    clear k2 r2 hp2 HT1 HK1
    obtain ⟨q0,q1,q2,q3,q4,q5⟩:=HR.out W1 HA1.out.1
    go_wp2_with fail
    refine (rt_value m' x' HH.out.1 _).mono ?_
    rintro e w2 ⟨hk2,v2,rfl,t2⟩
    obtain ⟨s2,ao2,ap2,k2,c2,j2,d2,rfl⟩:=t2.shape
    have HT2:=hid' (And.intro t2 hk2)
    clear t2 hk2 q0 q1 q2 q3 q4 q5
    go_upto_region 5 with fail
    have k3:=(Kept.refl w2).alloc (.cells #[.bool s2,.slice ao2 k2 c2,.bool false,.slice ap2 j2 d2] 68)
    have r3:=F.RRow.alloc w2 (.bool s2) (.slice ao2 k2 c2) (.bool false) (.slice ap2 j2 d2)
    generalize w2.alloc (.cells #[.bool s2,.slice ao2 k2 c2,.bool false,.slice ap2 j2 d2] 68) = W2 at k3 r3 ⊢
    obtain ⟨p3,hp3⟩:∃ p,p = w2.heap.size:=⟨_,rfl⟩
    rw [← hp3] at r3 ⊢
    have HA2:Hid (Kept W1 W2∧F.RRow W2 p3 (.bool s2) (.slice ao2 k2 c2) (.bool false) (.slice ap2 j2 d2)∧RT 0 W2 (.agg #[.bool s2,.slice ao2 k2 c2,.bool false,.slice ap2 j2 d2]) (U m' x') (10 ^ 18)):=⟨HT2.out.2.trans k3,r3,(HT2.out.1.kept k3).mono (Nat.zero_le _)⟩
    clear k3 r3 hp3 HT2
    have R2:=HA1.out.2.1.kept HA2.out.1
    have a0:=R2.c0
    have a1:=R2.c1
    have a2:=R2.c2
    have a3:=R2.c3
    have b0:=HA2.out.2.1.c0
    have b1:=HA2.out.2.1.c1
    have b2:=HA2.out.2.1.c2
    have b3:=HA2.out.2.1.c3
    clear R2
    go_wp2_with fail
    have u1:=u_bd h
    have u2:=u_bd HH.out.1
    refine (rt_sub W2 HA2.out.2.2 (HA1.out.2.2.kept HA2.out.1) (Nat.pow_pos (by decide)) (by have : (10 : Nat) ^ 36 + 10 ^ 36 ≤ 10 ^ 200 := by decide
                                                                                             omega) (by decide)).mono ?_
    rintro e w3 ⟨hk3,v3,rfl,t3⟩
    obtain ⟨s3,ao3,ap3,k3,c3,j3,d3,rfl⟩:=t3.shape
    have HT3:=hid' (And.intro t3 hk3)
    clear t3 hk3 a0 a1 a2 a3 b0 b1 b2 b3
    go_upto_region 6 with fail
    have kp4:=(Kept.refl w3).alloc (.cells #[.bool s3,.slice ao3 k3 c3,.bool false,.slice ap3 j3 d3] 68)
    have r4:=F.RRow.alloc w3 (.bool s3) (.slice ao3 k3 c3) (.bool false) (.slice ap3 j3 d3)
    generalize w3.alloc (.cells #[.bool s3,.slice ao3 k3 c3,.bool false,.slice ap3 j3 d3] 68) = W3 at kp4 r4 ⊢
    obtain ⟨p4,hp4⟩:∃ p,p = w3.heap.size:=⟨_,rfl⟩
    rw [← hp4] at r4 ⊢
    have HA3:Hid (Kept W2 W3∧F.RRow W3 p4 (.bool s3) (.slice ao3 k3 c3) (.bool false) (.slice ap3 j3 d3)∧RT 0 W3 (.agg #[.bool s3,.slice ao3 k3 c3,.bool false,.slice ap3 j3 d3]) (U m' x' - U m x) (10 ^ 18)):=⟨HT3.out.2.trans kp4,r4,(HT3.out.1.kept kp4).mono (Nat.zero_le _)⟩
    clear kp4 r4 hp4 HT3
    have HLn:Hid (0 < L.toNat∧L.toNat≤10 ^ 9∧g.natAbs≤10 ^ 9):=by have:=HH.out; exact ⟨by omega,by omega,by omega⟩
    have HB5:Hid (((U m' x' - U m x) * g).natAbs≤10 ^ 200∧10 ^ 18 * L.toNat≤10 ^ 200):=by
      constructor
      · rw [Int.natAbs_mul]
        have h1:(U m' x' - U m x).natAbs≤2 * 10 ^ 36:=by omega
        exact Nat.le_trans (Nat.mul_le_mul h1 HLn.out.2.2) (by decide)
      · exact Nat.le_trans (Nat.mul_le_mul_left _ HLn.out.2.1) (by decide)
    have HKW:Hid (Kept W W3):=(HA1.out.1.trans HA2.out.1).trans HA3.out.1
    have HV:Hid (∀ V,Kept W3 V→V.cell? ⟨p4,0,none⟩ = some (.bool s3)∧V.cell? ⟨p4,1,none⟩ = some (.slice ao3 k3 c3)∧V.cell? ⟨p4,2,none⟩ = some (.bool false)∧V.cell? ⟨p4,3,none⟩ = some (.slice ap3 j3 d3)∧V.cell? ⟨p1,4,none⟩ = some (.int .i64 g)∧V.cell? ⟨p1,5,none⟩ = some (.int .i64 L)):=fun V hV =>
      have r:=HA3.out.2.1.kept hV
      have q:=HR.out V (HKW.out.trans hV)
      ⟨r.c0,r.c1,r.c2,r.c3,q.2.2.2.2.1,q.2.2.2.2.2⟩
    go_cut [10] (fun s10 wc => ∃ (p5:Nat) (s5:Bool) (ao5 ap5:Option Addr) (k5 c5 j5 d5:Nat),s10 = .pointer (some ⟨p5,0,none⟩)∧Hid (Kept W3 wc∧F.RRow wc p5 (.bool s5) (.slice ao5 k5 c5) (.bool false) (.slice ap5 j5 d5)∧RT 0 wc (.agg #[.bool s5,.slice ao5 k5 c5,.bool false,.slice ap5 j5 d5]) ((U m' x' - U m x) * g) (10 ^ 18 * L.toNat)))
    case first =>
      have KT:Kept W3 W3.drew:=(Kept.refl _).drew
      have sS:=hid' (fun (V:World) (K:Kept W3 V) => And.intro ((HV.out _ K).1) (And.intro ((HV.out _ K).2.1) (And.intro ((HV.out _ K).2.2.1) (And.intro ((HV.out _ K).2.2.2.1) (And.intro ((HV.out _ K).2.2.2.2.1) ((HV.out _ K).2.2.2.2.2))))))
      refine wp_region_held_drew (S:=fun w' => w'.cell? ⟨p4,0,none⟩ = some (.bool s3)∧w'.cell? ⟨p4,1,none⟩ = some (.slice ao3 k3 c3)∧w'.cell? ⟨p4,2,none⟩ = some (.bool false)∧w'.cell? ⟨p4,3,none⟩ = some (.slice ap3 j3 d3)∧w'.cell? ⟨p1,4,none⟩ = some (.int .i64 g)∧w'.cell? ⟨p1,5,none⟩ = some (.int .i64 L)) (by kernel_rfl) (sS.out _ KT) (fun hHeld => ?_)
      generalize W3.drew = Wd at KT hHeld ⊢
      refine wpAnyH_take (i:=0) (v:=?vax0x1) rfl (by kernel_rfl) (by kernel_rfl) (by kernel_rfl) (fun _ _ _ h => h) (Or.inl ⟨by rfl,?yax0x1⟩) hHeld ?rax0x1
      case yax0x1 =>
        intro w' hSw
        obtain ⟨hSw0,hSw1,hSw2,hSw3,hSw4,hSw5⟩:=hSw
        go_simp
        with_reducible rfl
      case rax0x1 =>
      refine wpAnyH_take (i:=1) (v:=?vax1x2) rfl (by kernel_rfl) (by kernel_rfl) (by kernel_rfl) (fun _ _ _ h => h) (Or.inl ⟨by rfl,?yax1x2⟩) hHeld ?rax1x2
      case yax1x2 =>
        intro w' hSw
        obtain ⟨hSw0,hSw1,hSw2,hSw3,hSw4,hSw5⟩:=hSw
        go_simp
        with_reducible rfl
      case rax1x2 =>
      refine wpAnyH_take (i:=2) (v:=?vax2x3) rfl (by kernel_rfl) (by kernel_rfl) (by kernel_rfl) (fun _ _ _ h => h) (Or.inl ⟨by rfl,?yax2x3⟩) hHeld ?rax2x3
      case yax2x3 =>
        intro w' hSw
        obtain ⟨hSw0,hSw1,hSw2,hSw3,hSw4,hSw5⟩:=hSw
        go_simp
        with_reducible rfl
      case rax2x3 =>
      refine wpAnyH_take (i:=3) (v:=?vax3x4) rfl (by kernel_rfl) (by kernel_rfl) (by kernel_rfl) (fun _ _ _ h => h) (Or.inl ⟨by rfl,?yax3x4⟩) hHeld ?rax3x4
      case yax3x4 =>
        intro w' hSw
        obtain ⟨hSw0,hSw1,hSw2,hSw3,hSw4,hSw5⟩:=hSw
        go_simp
        with_reducible rfl
      case rax3x4 =>
      refine wpAnyH_take (i:=4) (v:=?vax4x5) rfl (by kernel_rfl) (by kernel_rfl) (by kernel_rfl) (fun _ _ _ h => h) (Or.inl ⟨by rfl,?yax4x5⟩) hHeld ?rax4x5
      case yax4x5 =>
        intro w' hSw
        obtain ⟨hSw0,hSw1,hSw2,hSw3,hSw4,hSw5⟩:=hSw
        go_simp
        with_reducible rfl
      case rax4x5 =>
      refine wpAnyH_ready (rs:=[5,10]) (by kernel_rfl) (by simp) ?_
      refine AllReadyH.cons rfl (fun K hK => ?_) ?_
      · go_simp
        refine (over_any g L ⟨HH.out.2.1,by have:=HH.out; omega⟩ ⟨by have:=HH.out; omega,HH.out.2.2.2⟩ _).mono ?_
        rintro e w7 ⟨hk7,v7,rfl,t7⟩
        obtain ⟨s7,ao7,ap7,k7,c7,j7,d7,rfl⟩:=t7.shape
        refine hK.out _ _ (sS.out _ (KT.trans hk7)) (fun hHeld => ?_)
        clear hK K
        have KT:=KT.trans hk7
        refine wpAnyH_ready (rs:=[6,10]) (by kernel_rfl) (by simp) ?_
        refine AllReadyH.cons rfl (fun K hK => ?_) ?_
        · go_simp
          refine (rt_mul _ (HA3.out.2.2.kept KT) t7 (by decide) HLn.out.1 HB5.out.1 HB5.out.2).mono ?_
          rintro e w8 ⟨hk8,v8,rfl,t8⟩
          obtain ⟨s5,ao5,ap5,k5,c5,j5,d5,rfl⟩:=t8.shape
          refine hK.out _ _ (sS.out _ (KT.trans hk8)) (fun hHeld => ?_)
          clear hK K
          have t7:=RT.kept t7 hk8
          have KT:=KT.trans hk8
          refine wpAnyH_take (i:=7) (v:=?vax7x6) rfl (by kernel_rfl) (by kernel_rfl) (by kernel_rfl) (fun _ _ _ h => h) (Or.inl ⟨by rfl,?yax7x6⟩) hHeld ?rax7x6
          case yax7x6 =>
            intro w' hSw
            obtain ⟨hSw0,hSw1,hSw2,hSw3,hSw4,hSw5⟩:=hSw
            go_simp
            with_reducible rfl
          case rax7x6 =>
          refine wpAnyH_take (i:=8) (v:=?vax8x7) rfl (by kernel_rfl) (by kernel_rfl) (by kernel_rfl) (fun _ _ _ h => h) (Or.inl ⟨by rfl,?yax8x7⟩) hHeld ?rax8x7
          case yax8x7 =>
            intro w' hSw
            obtain ⟨hSw0,hSw1,hSw2,hSw3,hSw4,hSw5⟩:=hSw
            go_simp
            with_reducible rfl
          case rax8x7 =>
          refine wpAnyH_take (i:=9) (v:=?vax9x8) rfl (by kernel_rfl) (by kernel_rfl) (by kernel_rfl) (fun _ _ _ h => h) (Or.inl ⟨by rfl,?yax9x8⟩) hHeld ?rax9x8
          case yax9x8 =>
            intro w' hSw
            obtain ⟨hSw0,hSw1,hSw2,hSw3,hSw4,hSw5⟩:=hSw
            go_simp
            with_reducible rfl
          case rax9x8 =>
          refine wpAnyH_ready (rs:=[10]) (by kernel_rfl) (by simp) ?_
          refine AllReadyH.cons rfl (fun K hK => ?_) AllReadyH.nil
          go_simp
          refine hK.out _ _ (sS.out _ (KT.alloc _)) (fun hHeld => ?_)
          clear hK K
          have zp5:=F.RRow.alloc w8 (.bool false) (.slice none 0 0) (.bool false) (.slice none 0 0)
          have hgp5:W3.heap.size≤w8.heap.size:=KT.size
          have t7:=RT.kept t7 ((Kept.refl w8).alloc (.cells #[.bool false,.slice none 0 0,.bool false,.slice none 0 0] 68))
          have t8:=RT.kept t8 ((Kept.refl w8).alloc (.cells #[.bool false,.slice none 0 0,.bool false,.slice none 0 0] 68))
          have KT:=KT.alloc (.cells #[.bool false,.slice none 0 0,.bool false,.slice none 0 0] 68)
          obtain ⟨p5,hpp5⟩:∃ p,p = w8.heap.size:=⟨_,rfl⟩
          rw [← hpp5] at zp5 hgp5 ⊢
          generalize w8.alloc (.cells #[.bool false,.slice none 0 0,.bool false,.slice none 0 0] 68) = Wa10 at zp5 t7 t8 KT hHeld ⊢
          clear hpp5
          have cp50:=zp5.c0
          have cp51:=zp5.c1
          have cp52:=zp5.c2
          have cp53:=zp5.c3
          have gp50:=zp5.fz 0
          have gp51:=zp5.fz 1
          have gp52:=zp5.fz 2
          have gp53:=zp5.fz 3
          refine wpAnyH_ready (rs:=[11]) (by kernel_rfl) (by simp) ?_
          refine AllReadyH.cons rfl (fun K hK => ?_) AllReadyH.nil
          go_simp
          refine hK.out _ _ (sS.out _ (Q.Kept.put4 KT hgp5 _ _ _ _)) (fun hHeld => ?_)
          clear hK K
          have ep5:=rrow_put4 zp5 (.bool s5) (.slice ao5 k5 c5) (.bool false) (.slice ap5 j5 d5)
          have t7:=RT.put4 t7 zp5 (.bool s5) (.slice ao5 k5 c5) (.bool false) (.slice ap5 j5 d5)
          have t8:=RT.put4 t8 zp5 (.bool s5) (.slice ao5 k5 c5) (.bool false) (.slice ap5 j5 d5)
          have KT:=Q.Kept.put4 KT hgp5 (.bool s5) (.slice ao5 k5 c5) (.bool false) (.slice ap5 j5 d5)
          clear cp50 cp51 cp52 cp53 gp50 gp51 gp52 gp53 zp5
          unfold Q.put4 at t7 t8 KT ep5
          generalize (((Wa10.setCell ⟨p5,0,none⟩ (.bool s5)).setCell ⟨p5,1,none⟩ (.slice ao5 k5 c5)).setCell ⟨p5,2,none⟩ (.bool false)).setCell ⟨p5,3,none⟩ (.slice ap5 j5 d5) = Ws at ep5 t7 t8 KT hHeld ⊢
          refine wpAnyH_take (i:=12) (v:=?vax12x9) rfl (by kernel_rfl) (by kernel_rfl) (by kernel_rfl) (fun _ _ _ h => h) (Or.inl ⟨by rfl,?yax12x9⟩) hHeld ?rax12x9
          case yax12x9 =>
            intro w' hSw
            obtain ⟨hSw0,hSw1,hSw2,hSw3,hSw4,hSw5⟩:=hSw
            go_simp
            with_reducible rfl
          case rax12x9 =>
          refine wpAnyH_done (by kernel_rfl) ?_ _
          go_wp2_with fail
          go_meet
          case rel => exact ⟨p5,s5,ao5,ap5,k5,c5,j5,d5,rfl,KT,ep5,t8.mono (Nat.zero_le _)⟩
        refine AllReadyH.cons rfl (fun K hK => ?_) AllReadyH.nil
        go_simp
        refine hK.out _ _ (sS.out _ (KT.alloc _)) (fun hHeld => ?_)
        clear hK K
        have zp5:=F.RRow.alloc w7 (.bool false) (.slice none 0 0) (.bool false) (.slice none 0 0)
        have hgp5:W3.heap.size≤w7.heap.size:=KT.size
        have t7:=RT.kept t7 ((Kept.refl w7).alloc (.cells #[.bool false,.slice none 0 0,.bool false,.slice none 0 0] 68))
        have KT:=KT.alloc (.cells #[.bool false,.slice none 0 0,.bool false,.slice none 0 0] 68)
        obtain ⟨p5,hpp5⟩:∃ p,p = w7.heap.size:=⟨_,rfl⟩
        rw [← hpp5] at zp5 hgp5 ⊢
        generalize w7.alloc (.cells #[.bool false,.slice none 0 0,.bool false,.slice none 0 0] 68) = Wa10 at zp5 t7 KT hHeld ⊢
        clear hpp5
        refine wpAnyH_ready (rs:=[6]) (by kernel_rfl) (by simp) ?_
        refine AllReadyH.cons rfl (fun K hK => ?_) AllReadyH.nil
        go_simp
        refine (rt_mul _ (HA3.out.2.2.kept KT) t7 (by decide) HLn.out.1 HB5.out.1 HB5.out.2).mono ?_
        rintro e w8 ⟨hk8,v8,rfl,t8⟩
        obtain ⟨s5,ao5,ap5,k5,c5,j5,d5,rfl⟩:=t8.shape
        refine hK.out _ _ (sS.out _ (KT.trans hk8)) (fun hHeld => ?_)
        clear hK K
        have zp5:=zp5.kept hk8
        have t7:=RT.kept t7 hk8
        have KT:=KT.trans hk8
        refine wpAnyH_take (i:=7) (v:=?vax7x10) rfl (by kernel_rfl) (by kernel_rfl) (by kernel_rfl) (fun _ _ _ h => h) (Or.inl ⟨by rfl,?yax7x10⟩) hHeld ?rax7x10
        case yax7x10 =>
          intro w' hSw
          obtain ⟨hSw0,hSw1,hSw2,hSw3,hSw4,hSw5⟩:=hSw
          go_simp
          with_reducible rfl
        case rax7x10 =>
        refine wpAnyH_take (i:=8) (v:=?vax8x11) rfl (by kernel_rfl) (by kernel_rfl) (by kernel_rfl) (fun _ _ _ h => h) (Or.inl ⟨by rfl,?yax8x11⟩) hHeld ?rax8x11
        case yax8x11 =>
          intro w' hSw
          obtain ⟨hSw0,hSw1,hSw2,hSw3,hSw4,hSw5⟩:=hSw
          go_simp
          with_reducible rfl
        case rax8x11 =>
        refine wpAnyH_take (i:=9) (v:=?vax9x12) rfl (by kernel_rfl) (by kernel_rfl) (by kernel_rfl) (fun _ _ _ h => h) (Or.inl ⟨by rfl,?yax9x12⟩) hHeld ?rax9x12
        case yax9x12 =>
          intro w' hSw
          obtain ⟨hSw0,hSw1,hSw2,hSw3,hSw4,hSw5⟩:=hSw
          go_simp
          with_reducible rfl
        case rax9x12 =>
        have cp50:=zp5.c0
        have cp51:=zp5.c1
        have cp52:=zp5.c2
        have cp53:=zp5.c3
        have gp50:=zp5.fz 0
        have gp51:=zp5.fz 1
        have gp52:=zp5.fz 2
        have gp53:=zp5.fz 3
        refine wpAnyH_ready (rs:=[11]) (by kernel_rfl) (by simp) ?_
        refine AllReadyH.cons rfl (fun K hK => ?_) AllReadyH.nil
        go_simp
        refine hK.out _ _ (sS.out _ (Q.Kept.put4 KT hgp5 _ _ _ _)) (fun hHeld => ?_)
        clear hK K
        have ep5:=rrow_put4 zp5 (.bool s5) (.slice ao5 k5 c5) (.bool false) (.slice ap5 j5 d5)
        have t7:=RT.put4 t7 zp5 (.bool s5) (.slice ao5 k5 c5) (.bool false) (.slice ap5 j5 d5)
        have t8:=RT.put4 t8 zp5 (.bool s5) (.slice ao5 k5 c5) (.bool false) (.slice ap5 j5 d5)
        have KT:=Q.Kept.put4 KT hgp5 (.bool s5) (.slice ao5 k5 c5) (.bool false) (.slice ap5 j5 d5)
        clear cp50 cp51 cp52 cp53 gp50 gp51 gp52 gp53 zp5
        unfold Q.put4 at t7 t8 KT ep5
        generalize (((w8.setCell ⟨p5,0,none⟩ (.bool s5)).setCell ⟨p5,1,none⟩ (.slice ao5 k5 c5)).setCell ⟨p5,2,none⟩ (.bool false)).setCell ⟨p5,3,none⟩ (.slice ap5 j5 d5) = Ws at ep5 t7 t8 KT hHeld ⊢
        refine wpAnyH_take (i:=12) (v:=?vax12x13) rfl (by kernel_rfl) (by kernel_rfl) (by kernel_rfl) (fun _ _ _ h => h) (Or.inl ⟨by rfl,?yax12x13⟩) hHeld ?rax12x13
        case yax12x13 =>
          intro w' hSw
          obtain ⟨hSw0,hSw1,hSw2,hSw3,hSw4,hSw5⟩:=hSw
          go_simp
          with_reducible rfl
        case rax12x13 =>
        refine wpAnyH_done (by kernel_rfl) ?_ _
        go_wp2_with fail
        go_meet
        case rel => exact ⟨p5,s5,ao5,ap5,k5,c5,j5,d5,rfl,KT,ep5,t8.mono (Nat.zero_le _)⟩
      refine AllReadyH.cons rfl (fun K hK => ?_) AllReadyH.nil
      go_simp
      refine hK.out _ _ (sS.out _ (KT.alloc _)) (fun hHeld => ?_)
      clear hK K
      have zp5:=F.RRow.alloc Wd (.bool false) (.slice none 0 0) (.bool false) (.slice none 0 0)
      have hgp5:W3.heap.size≤Wd.heap.size:=KT.size
      have KT:=KT.alloc (.cells #[.bool false,.slice none 0 0,.bool false,.slice none 0 0] 68)
      obtain ⟨p5,hpp5⟩:∃ p,p = Wd.heap.size:=⟨_,rfl⟩
      rw [← hpp5] at zp5 hgp5 ⊢
      generalize Wd.alloc (.cells #[.bool false,.slice none 0 0,.bool false,.slice none 0 0] 68) = Wa10 at zp5  KT hHeld ⊢
      clear hpp5
      refine wpAnyH_ready (rs:=[5]) (by kernel_rfl) (by simp) ?_
      refine AllReadyH.cons rfl (fun K hK => ?_) AllReadyH.nil
      go_simp
      refine (over_any g L ⟨HH.out.2.1,by have:=HH.out; omega⟩ ⟨by have:=HH.out; omega,HH.out.2.2.2⟩ _).mono ?_
      rintro e w7 ⟨hk7,v7,rfl,t7⟩
      obtain ⟨s7,ao7,ap7,k7,c7,j7,d7,rfl⟩:=t7.shape
      refine hK.out _ _ (sS.out _ (KT.trans hk7)) (fun hHeld => ?_)
      clear hK K
      have zp5:=zp5.kept hk7
      have KT:=KT.trans hk7
      refine wpAnyH_ready (rs:=[6]) (by kernel_rfl) (by simp) ?_
      refine AllReadyH.cons rfl (fun K hK => ?_) AllReadyH.nil
      go_simp
      refine (rt_mul _ (HA3.out.2.2.kept KT) t7 (by decide) HLn.out.1 HB5.out.1 HB5.out.2).mono ?_
      rintro e w8 ⟨hk8,v8,rfl,t8⟩
      obtain ⟨s5,ao5,ap5,k5,c5,j5,d5,rfl⟩:=t8.shape
      refine hK.out _ _ (sS.out _ (KT.trans hk8)) (fun hHeld => ?_)
      clear hK K
      have zp5:=zp5.kept hk8
      have t7:=RT.kept t7 hk8
      have KT:=KT.trans hk8
      refine wpAnyH_take (i:=7) (v:=?vax7x14) rfl (by kernel_rfl) (by kernel_rfl) (by kernel_rfl) (fun _ _ _ h => h) (Or.inl ⟨by rfl,?yax7x14⟩) hHeld ?rax7x14
      case yax7x14 =>
        intro w' hSw
        obtain ⟨hSw0,hSw1,hSw2,hSw3,hSw4,hSw5⟩:=hSw
        go_simp
        with_reducible rfl
      case rax7x14 =>
      refine wpAnyH_take (i:=8) (v:=?vax8x15) rfl (by kernel_rfl) (by kernel_rfl) (by kernel_rfl) (fun _ _ _ h => h) (Or.inl ⟨by rfl,?yax8x15⟩) hHeld ?rax8x15
      case yax8x15 =>
        intro w' hSw
        obtain ⟨hSw0,hSw1,hSw2,hSw3,hSw4,hSw5⟩:=hSw
        go_simp
        with_reducible rfl
      case rax8x15 =>
      refine wpAnyH_take (i:=9) (v:=?vax9x16) rfl (by kernel_rfl) (by kernel_rfl) (by kernel_rfl) (fun _ _ _ h => h) (Or.inl ⟨by rfl,?yax9x16⟩) hHeld ?rax9x16
      case yax9x16 =>
        intro w' hSw
        obtain ⟨hSw0,hSw1,hSw2,hSw3,hSw4,hSw5⟩:=hSw
        go_simp
        with_reducible rfl
      case rax9x16 =>
      have cp50:=zp5.c0
      have cp51:=zp5.c1
      have cp52:=zp5.c2
      have cp53:=zp5.c3
      have gp50:=zp5.fz 0
      have gp51:=zp5.fz 1
      have gp52:=zp5.fz 2
      have gp53:=zp5.fz 3
      refine wpAnyH_ready (rs:=[11]) (by kernel_rfl) (by simp) ?_
      refine AllReadyH.cons rfl (fun K hK => ?_) AllReadyH.nil
      go_simp
      refine hK.out _ _ (sS.out _ (Q.Kept.put4 KT hgp5 _ _ _ _)) (fun hHeld => ?_)
      clear hK K
      have ep5:=rrow_put4 zp5 (.bool s5) (.slice ao5 k5 c5) (.bool false) (.slice ap5 j5 d5)
      have t7:=RT.put4 t7 zp5 (.bool s5) (.slice ao5 k5 c5) (.bool false) (.slice ap5 j5 d5)
      have t8:=RT.put4 t8 zp5 (.bool s5) (.slice ao5 k5 c5) (.bool false) (.slice ap5 j5 d5)
      have KT:=Q.Kept.put4 KT hgp5 (.bool s5) (.slice ao5 k5 c5) (.bool false) (.slice ap5 j5 d5)
      clear cp50 cp51 cp52 cp53 gp50 gp51 gp52 gp53 zp5
      unfold Q.put4 at t7 t8 KT ep5
      generalize (((w8.setCell ⟨p5,0,none⟩ (.bool s5)).setCell ⟨p5,1,none⟩ (.slice ao5 k5 c5)).setCell ⟨p5,2,none⟩ (.bool false)).setCell ⟨p5,3,none⟩ (.slice ap5 j5 d5) = Ws at ep5 t7 t8 KT hHeld ⊢
      refine wpAnyH_take (i:=12) (v:=?vax12x17) rfl (by kernel_rfl) (by kernel_rfl) (by kernel_rfl) (fun _ _ _ h => h) (Or.inl ⟨by rfl,?yax12x17⟩) hHeld ?rax12x17
      case yax12x17 =>
        intro w' hSw
        obtain ⟨hSw0,hSw1,hSw2,hSw3,hSw4,hSw5⟩:=hSw
        go_simp
        with_reducible rfl
      case rax12x17 =>
      refine wpAnyH_done (by kernel_rfl) ?_ _
      go_wp2_with fail
      go_meet
      case rel => exact ⟨p5,s5,ao5,ap5,k5,c5,j5,d5,rfl,KT,ep5,t8.mono (Nat.zero_le _)⟩
    case rest =>
      obtain ⟨p5,s5,ao5,ap5,k5,c5,j5,d5,rfl,HC⟩:=hcut
      have R2:=((HA1.out.2.1.kept HA2.out.1).kept HA3.out.1).kept HC.out.1
      have a0:=R2.c0
      have a1:=R2.c1
      have a2:=R2.c2
      have a3:=R2.c3
      have b0:=HC.out.2.1.c0
      have b1:=HC.out.2.1.c1
      have b2:=HC.out.2.1.c2
      have b3:=HC.out.2.1.c3
      clear R2
      go_wp2_with fail
      have HB6:Hid ((U m x * (L.toNat:Int) + (U m' x' - U m x) * g).natAbs≤10 ^ 100):=by
        have h1:(U m x * (L.toNat:Int)).natAbs≤10 ^ 36 * 10 ^ 9:=by rw [Int.natAbs_mul,Int.natAbs_natCast]; exact Nat.mul_le_mul u1 HLn.out.2.1
        have h2:((U m' x' - U m x) * g).natAbs≤2 * 10 ^ 36 * 10 ^ 9:=by
          rw [Int.natAbs_mul]
          exact Nat.mul_le_mul (by omega) HLn.out.2.2
        have h3:(10:Nat) ^ 36 * 10 ^ 9 + 2 * 10 ^ 36 * 10 ^ 9≤10 ^ 100:=by decide
        show _≤_
        omega
      refine (rt_add wc ((((HA1.out.2.2.kept HA2.out.1).kept HA3.out.1).kept HC.out.1).scale L.toNat) HC.out.2.2 (Nat.mul_pos (by decide) HLn.out.1) (Nat.le_trans HB6.out (by decide)) HB5.out.2).mono ?_
      rintro e w6 ⟨hk6,v6,rfl,t6⟩
      obtain ⟨s6,ao6,ap6,k6,c6,j6,d6,rfl⟩:=t6.shape
      have HT6:=hid' (And.intro t6 hk6)
      clear t6 hk6 a0 a1 a2 a3 b0 b1 b2 b3
      go_upto_region 8 with fail
      have kp6:=(Kept.refl w6).alloc (.cells #[.bool s6,.slice ao6 k6 c6,.bool false,.slice ap6 j6 d6] 68)
      have r6:=F.RRow.alloc w6 (.bool s6) (.slice ao6 k6 c6) (.bool false) (.slice ap6 j6 d6)
      generalize w6.alloc (.cells #[.bool s6,.slice ao6 k6 c6,.bool false,.slice ap6 j6 d6] 68) = W6 at kp6 r6 ⊢
      obtain ⟨p6,hp6⟩:∃ p,p = w6.heap.size:=⟨_,rfl⟩
      rw [← hp6] at r6 ⊢
      have HA6:Hid (Kept w W6∧F.RRow W6 p6 (.bool s6) (.slice ao6 k6 c6) (.bool false) (.slice ap6 j6 d6)∧RT 0 W6 (.agg #[.bool s6,.slice ao6 k6 c6,.bool false,.slice ap6 j6 d6]) (U m x * (L.toNat:Int) + (U m' x' - U m x) * g) (10 ^ 18 * L.toNat)):=⟨((HK.out.trans HKW.out).trans HC.out.1).trans (HT6.out.2.trans kp6),r6,(HT6.out.1.kept kp6).mono (Nat.zero_le _)⟩
      clear kp6 r6 hp6 HT6
      have HB7:Hid (((U m x * (L.toNat:Int) + (U m' x' - U m x) * g) * 1000000000).natAbs≤10 ^ 200∧10 ^ 18 * L.toNat * (1:Int).toNat≤10 ^ 200):=by
        constructor
        · rw [Int.natAbs_mul]
          exact Nat.le_trans (Nat.mul_le_mul_right _ HB6.out) (by decide)
        · rw [show (1:Int).toNat = 1 from rfl,Nat.mul_one]; exact HB5.out.2
      clear HV
      have HV:Hid (∀ V,Kept W6 V→V.cell? ⟨p6,0,none⟩ = some (.bool s6)∧V.cell? ⟨p6,1,none⟩ = some (.slice ao6 k6 c6)∧V.cell? ⟨p6,2,none⟩ = some (.bool false)∧V.cell? ⟨p6,3,none⟩ = some (.slice ap6 j6 d6)):=fun V hV =>
        have r:=HA6.out.2.1.kept hV
        ⟨r.c0,r.c1,r.c2,r.c3⟩
      go_cut [14] (fun s14 wd => ∃ (p9:Nat) (s9:Bool) (ao9 ap9:Option Addr) (k9 c9 j9 d9:Nat),s14 = .pointer (some ⟨p9,0,none⟩)∧Hid (Kept W6 wd∧F.RRow wd p9 (.bool s9) (.slice ao9 k9 c9) (.bool false) (.slice ap9 j9 d9)∧RT 0 wd (.agg #[.bool s9,.slice ao9 k9 c9,.bool false,.slice ap9 j9 d9]) ((U m x * (L.toNat:Int) + (U m' x' - U m x) * g) * 1000000000) (10 ^ 18 * L.toNat * (1:Int).toNat)))
      case first =>
        have KT:Kept W6 W6.drew:=(Kept.refl _).drew
        have sS:=hid' (fun (V:World) (K:Kept W6 V) => And.intro ((HV.out _ K).1) (And.intro ((HV.out _ K).2.1) (And.intro ((HV.out _ K).2.2.1) ((HV.out _ K).2.2.2))))
        refine wp_region_held_drew (S:=fun w' => w'.cell? ⟨p6,0,none⟩ = some (.bool s6)∧w'.cell? ⟨p6,1,none⟩ = some (.slice ao6 k6 c6)∧w'.cell? ⟨p6,2,none⟩ = some (.bool false)∧w'.cell? ⟨p6,3,none⟩ = some (.slice ap6 j6 d6)) (by kernel_rfl) (sS.out _ KT) (fun hHeld => ?_)
        generalize W6.drew = Wd at KT hHeld ⊢
        refine wpAnyH_take (i:=0) (v:=?vbx0x1) rfl (by kernel_rfl) (by kernel_rfl) (by kernel_rfl) (fun _ _ _ h => h) (Or.inl ⟨by rfl,?ybx0x1⟩) hHeld ?rbx0x1
        case ybx0x1 =>
          intro w' hSw
          obtain ⟨hSw0,hSw1,hSw2,hSw3⟩:=hSw
          go_simp
          with_reducible rfl
        case rbx0x1 =>
        refine wpAnyH_ready (rs:=[1,6]) (by kernel_rfl) (by simp) ?_
        refine AllReadyH.cons rfl (fun K hK => ?_) ?_
        · go_simp
          refine (over_any 1000000000 1 (by decide) (by decide) _).mono ?_
          rintro e w7 ⟨hk7,v7,rfl,t7⟩
          obtain ⟨s7,ao7,ap7,k7,c7,j7,d7,rfl⟩:=t7.shape
          refine hK.out _ _ (sS.out _ (KT.trans hk7)) (fun hHeld => ?_)
          clear hK K
          have KT:=KT.trans hk7
          refine wpAnyH_ready (rs:=[2,6]) (by kernel_rfl) (by simp) ?_
          refine AllReadyH.cons rfl (fun K hK => ?_) ?_
          · go_simp
            refine (rt_mul _ (HA6.out.2.2.kept KT) t7 (Nat.mul_pos (by decide) HLn.out.1) (by decide) HB7.out.1 HB7.out.2).mono ?_
            rintro e w8 ⟨hk8,v8,rfl,t8⟩
            obtain ⟨s9,ao9,ap9,k9,c9,j9,d9,rfl⟩:=t8.shape
            refine hK.out _ _ (sS.out _ (KT.trans hk8)) (fun hHeld => ?_)
            clear hK K
            have t7:=RT.kept t7 hk8
            have KT:=KT.trans hk8
            refine wpAnyH_take (i:=3) (v:=?vbx3x2) rfl (by kernel_rfl) (by kernel_rfl) (by kernel_rfl) (fun _ _ _ h => h) (Or.inl ⟨by rfl,?ybx3x2⟩) hHeld ?rbx3x2
            case ybx3x2 =>
              intro w' hSw
              obtain ⟨hSw0,hSw1,hSw2,hSw3⟩:=hSw
              go_simp
              with_reducible rfl
            case rbx3x2 =>
            refine wpAnyH_take (i:=4) (v:=?vbx4x3) rfl (by kernel_rfl) (by kernel_rfl) (by kernel_rfl) (fun _ _ _ h => h) (Or.inl ⟨by rfl,?ybx4x3⟩) hHeld ?rbx4x3
            case ybx4x3 =>
              intro w' hSw
              obtain ⟨hSw0,hSw1,hSw2,hSw3⟩:=hSw
              go_simp
              with_reducible rfl
            case rbx4x3 =>
            refine wpAnyH_take (i:=5) (v:=?vbx5x4) rfl (by kernel_rfl) (by kernel_rfl) (by kernel_rfl) (fun _ _ _ h => h) (Or.inl ⟨by rfl,?ybx5x4⟩) hHeld ?rbx5x4
            case ybx5x4 =>
              intro w' hSw
              obtain ⟨hSw0,hSw1,hSw2,hSw3⟩:=hSw
              go_simp
              with_reducible rfl
            case rbx5x4 =>
            refine wpAnyH_ready (rs:=[6]) (by kernel_rfl) (by simp) ?_
            refine AllReadyH.cons rfl (fun K hK => ?_) AllReadyH.nil
            go_simp
            refine hK.out _ _ (sS.out _ (KT.alloc _)) (fun hHeld => ?_)
            clear hK K
            have zp9:=F.RRow.alloc w8 (.bool false) (.slice none 0 0) (.bool false) (.slice none 0 0)
            have hgp9:W6.heap.size≤w8.heap.size:=KT.size
            have t7:=RT.kept t7 ((Kept.refl w8).alloc (.cells #[.bool false,.slice none 0 0,.bool false,.slice none 0 0] 68))
            have t8:=RT.kept t8 ((Kept.refl w8).alloc (.cells #[.bool false,.slice none 0 0,.bool false,.slice none 0 0] 68))
            have KT:=KT.alloc (.cells #[.bool false,.slice none 0 0,.bool false,.slice none 0 0] 68)
            obtain ⟨p9,hpp9⟩:∃ p,p = w8.heap.size:=⟨_,rfl⟩
            rw [← hpp9] at zp9 hgp9 ⊢
            generalize w8.alloc (.cells #[.bool false,.slice none 0 0,.bool false,.slice none 0 0] 68) = Wa6 at zp9 t7 t8 KT hHeld ⊢
            clear hpp9
            have cp90:=zp9.c0
            have cp91:=zp9.c1
            have cp92:=zp9.c2
            have cp93:=zp9.c3
            have gp90:=zp9.fz 0
            have gp91:=zp9.fz 1
            have gp92:=zp9.fz 2
            have gp93:=zp9.fz 3
            refine wpAnyH_ready (rs:=[7]) (by kernel_rfl) (by simp) ?_
            refine AllReadyH.cons rfl (fun K hK => ?_) AllReadyH.nil
            go_simp
            refine hK.out _ _ (sS.out _ (Q.Kept.put4 KT hgp9 _ _ _ _)) (fun hHeld => ?_)
            clear hK K
            have ep9:=rrow_put4 zp9 (.bool s9) (.slice ao9 k9 c9) (.bool false) (.slice ap9 j9 d9)
            have t7:=RT.put4 t7 zp9 (.bool s9) (.slice ao9 k9 c9) (.bool false) (.slice ap9 j9 d9)
            have t8:=RT.put4 t8 zp9 (.bool s9) (.slice ao9 k9 c9) (.bool false) (.slice ap9 j9 d9)
            have KT:=Q.Kept.put4 KT hgp9 (.bool s9) (.slice ao9 k9 c9) (.bool false) (.slice ap9 j9 d9)
            clear cp90 cp91 cp92 cp93 gp90 gp91 gp92 gp93 zp9
            unfold Q.put4 at t7 t8 KT ep9
            generalize (((Wa6.setCell ⟨p9,0,none⟩ (.bool s9)).setCell ⟨p9,1,none⟩ (.slice ao9 k9 c9)).setCell ⟨p9,2,none⟩ (.bool false)).setCell ⟨p9,3,none⟩ (.slice ap9 j9 d9) = Ws at ep9 t7 t8 KT hHeld ⊢
            refine wpAnyH_take (i:=8) (v:=?vbx8x5) rfl (by kernel_rfl) (by kernel_rfl) (by kernel_rfl) (fun _ _ _ h => h) (Or.inl ⟨by rfl,?ybx8x5⟩) hHeld ?rbx8x5
            case ybx8x5 =>
              intro w' hSw
              obtain ⟨hSw0,hSw1,hSw2,hSw3⟩:=hSw
              go_simp
              with_reducible rfl
            case rbx8x5 =>
            refine wpAnyH_done (by kernel_rfl) ?_ _
            go_wp2_with fail
            go_meet
            case rel => exact ⟨p9,s9,ao9,ap9,k9,c9,j9,d9,rfl,KT,ep9,t8.mono (Nat.zero_le _)⟩
          refine AllReadyH.cons rfl (fun K hK => ?_) AllReadyH.nil
          go_simp
          refine hK.out _ _ (sS.out _ (KT.alloc _)) (fun hHeld => ?_)
          clear hK K
          have zp9:=F.RRow.alloc w7 (.bool false) (.slice none 0 0) (.bool false) (.slice none 0 0)
          have hgp9:W6.heap.size≤w7.heap.size:=KT.size
          have t7:=RT.kept t7 ((Kept.refl w7).alloc (.cells #[.bool false,.slice none 0 0,.bool false,.slice none 0 0] 68))
          have KT:=KT.alloc (.cells #[.bool false,.slice none 0 0,.bool false,.slice none 0 0] 68)
          obtain ⟨p9,hpp9⟩:∃ p,p = w7.heap.size:=⟨_,rfl⟩
          rw [← hpp9] at zp9 hgp9 ⊢
          generalize w7.alloc (.cells #[.bool false,.slice none 0 0,.bool false,.slice none 0 0] 68) = Wa6 at zp9 t7 KT hHeld ⊢
          clear hpp9
          refine wpAnyH_ready (rs:=[2]) (by kernel_rfl) (by simp) ?_
          refine AllReadyH.cons rfl (fun K hK => ?_) AllReadyH.nil
          go_simp
          refine (rt_mul _ (HA6.out.2.2.kept KT) t7 (Nat.mul_pos (by decide) HLn.out.1) (by decide) HB7.out.1 HB7.out.2).mono ?_
          rintro e w8 ⟨hk8,v8,rfl,t8⟩
          obtain ⟨s9,ao9,ap9,k9,c9,j9,d9,rfl⟩:=t8.shape
          refine hK.out _ _ (sS.out _ (KT.trans hk8)) (fun hHeld => ?_)
          clear hK K
          have zp9:=zp9.kept hk8
          have t7:=RT.kept t7 hk8
          have KT:=KT.trans hk8
          refine wpAnyH_take (i:=3) (v:=?vbx3x6) rfl (by kernel_rfl) (by kernel_rfl) (by kernel_rfl) (fun _ _ _ h => h) (Or.inl ⟨by rfl,?ybx3x6⟩) hHeld ?rbx3x6
          case ybx3x6 =>
            intro w' hSw
            obtain ⟨hSw0,hSw1,hSw2,hSw3⟩:=hSw
            go_simp
            with_reducible rfl
          case rbx3x6 =>
          refine wpAnyH_take (i:=4) (v:=?vbx4x7) rfl (by kernel_rfl) (by kernel_rfl) (by kernel_rfl) (fun _ _ _ h => h) (Or.inl ⟨by rfl,?ybx4x7⟩) hHeld ?rbx4x7
          case ybx4x7 =>
            intro w' hSw
            obtain ⟨hSw0,hSw1,hSw2,hSw3⟩:=hSw
            go_simp
            with_reducible rfl
          case rbx4x7 =>
          refine wpAnyH_take (i:=5) (v:=?vbx5x8) rfl (by kernel_rfl) (by kernel_rfl) (by kernel_rfl) (fun _ _ _ h => h) (Or.inl ⟨by rfl,?ybx5x8⟩) hHeld ?rbx5x8
          case ybx5x8 =>
            intro w' hSw
            obtain ⟨hSw0,hSw1,hSw2,hSw3⟩:=hSw
            go_simp
            with_reducible rfl
          case rbx5x8 =>
          have cp90:=zp9.c0
          have cp91:=zp9.c1
          have cp92:=zp9.c2
          have cp93:=zp9.c3
          have gp90:=zp9.fz 0
          have gp91:=zp9.fz 1
          have gp92:=zp9.fz 2
          have gp93:=zp9.fz 3
          refine wpAnyH_ready (rs:=[7]) (by kernel_rfl) (by simp) ?_
          refine AllReadyH.cons rfl (fun K hK => ?_) AllReadyH.nil
          go_simp
          refine hK.out _ _ (sS.out _ (Q.Kept.put4 KT hgp9 _ _ _ _)) (fun hHeld => ?_)
          clear hK K
          have ep9:=rrow_put4 zp9 (.bool s9) (.slice ao9 k9 c9) (.bool false) (.slice ap9 j9 d9)
          have t7:=RT.put4 t7 zp9 (.bool s9) (.slice ao9 k9 c9) (.bool false) (.slice ap9 j9 d9)
          have t8:=RT.put4 t8 zp9 (.bool s9) (.slice ao9 k9 c9) (.bool false) (.slice ap9 j9 d9)
          have KT:=Q.Kept.put4 KT hgp9 (.bool s9) (.slice ao9 k9 c9) (.bool false) (.slice ap9 j9 d9)
          clear cp90 cp91 cp92 cp93 gp90 gp91 gp92 gp93 zp9
          unfold Q.put4 at t7 t8 KT ep9
          generalize (((w8.setCell ⟨p9,0,none⟩ (.bool s9)).setCell ⟨p9,1,none⟩ (.slice ao9 k9 c9)).setCell ⟨p9,2,none⟩ (.bool false)).setCell ⟨p9,3,none⟩ (.slice ap9 j9 d9) = Ws at ep9 t7 t8 KT hHeld ⊢
          refine wpAnyH_take (i:=8) (v:=?vbx8x9) rfl (by kernel_rfl) (by kernel_rfl) (by kernel_rfl) (fun _ _ _ h => h) (Or.inl ⟨by rfl,?ybx8x9⟩) hHeld ?rbx8x9
          case ybx8x9 =>
            intro w' hSw
            obtain ⟨hSw0,hSw1,hSw2,hSw3⟩:=hSw
            go_simp
            with_reducible rfl
          case rbx8x9 =>
          refine wpAnyH_done (by kernel_rfl) ?_ _
          go_wp2_with fail
          go_meet
          case rel => exact ⟨p9,s9,ao9,ap9,k9,c9,j9,d9,rfl,KT,ep9,t8.mono (Nat.zero_le _)⟩
        refine AllReadyH.cons rfl (fun K hK => ?_) AllReadyH.nil
        go_simp
        refine hK.out _ _ (sS.out _ (KT.alloc _)) (fun hHeld => ?_)
        clear hK K
        have zp9:=F.RRow.alloc Wd (.bool false) (.slice none 0 0) (.bool false) (.slice none 0 0)
        have hgp9:W6.heap.size≤Wd.heap.size:=KT.size
        have KT:=KT.alloc (.cells #[.bool false,.slice none 0 0,.bool false,.slice none 0 0] 68)
        obtain ⟨p9,hpp9⟩:∃ p,p = Wd.heap.size:=⟨_,rfl⟩
        rw [← hpp9] at zp9 hgp9 ⊢
        generalize Wd.alloc (.cells #[.bool false,.slice none 0 0,.bool false,.slice none 0 0] 68) = Wa6 at zp9  KT hHeld ⊢
        clear hpp9
        refine wpAnyH_ready (rs:=[1]) (by kernel_rfl) (by simp) ?_
        refine AllReadyH.cons rfl (fun K hK => ?_) AllReadyH.nil
        go_simp
        refine (over_any 1000000000 1 (by decide) (by decide) _).mono ?_
        rintro e w7 ⟨hk7,v7,rfl,t7⟩
        obtain ⟨s7,ao7,ap7,k7,c7,j7,d7,rfl⟩:=t7.shape
        refine hK.out _ _ (sS.out _ (KT.trans hk7)) (fun hHeld => ?_)
        clear hK K
        have zp9:=zp9.kept hk7
        have KT:=KT.trans hk7
        refine wpAnyH_ready (rs:=[2]) (by kernel_rfl) (by simp) ?_
        refine AllReadyH.cons rfl (fun K hK => ?_) AllReadyH.nil
        go_simp
        refine (rt_mul _ (HA6.out.2.2.kept KT) t7 (Nat.mul_pos (by decide) HLn.out.1) (by decide) HB7.out.1 HB7.out.2).mono ?_
        rintro e w8 ⟨hk8,v8,rfl,t8⟩
        obtain ⟨s9,ao9,ap9,k9,c9,j9,d9,rfl⟩:=t8.shape
        refine hK.out _ _ (sS.out _ (KT.trans hk8)) (fun hHeld => ?_)
        clear hK K
        have zp9:=zp9.kept hk8
        have t7:=RT.kept t7 hk8
        have KT:=KT.trans hk8
        refine wpAnyH_take (i:=3) (v:=?vbx3x10) rfl (by kernel_rfl) (by kernel_rfl) (by kernel_rfl) (fun _ _ _ h => h) (Or.inl ⟨by rfl,?ybx3x10⟩) hHeld ?rbx3x10
        case ybx3x10 =>
          intro w' hSw
          obtain ⟨hSw0,hSw1,hSw2,hSw3⟩:=hSw
          go_simp
          with_reducible rfl
        case rbx3x10 =>
        refine wpAnyH_take (i:=4) (v:=?vbx4x11) rfl (by kernel_rfl) (by kernel_rfl) (by kernel_rfl) (fun _ _ _ h => h) (Or.inl ⟨by rfl,?ybx4x11⟩) hHeld ?rbx4x11
        case ybx4x11 =>
          intro w' hSw
          obtain ⟨hSw0,hSw1,hSw2,hSw3⟩:=hSw
          go_simp
          with_reducible rfl
        case rbx4x11 =>
        refine wpAnyH_take (i:=5) (v:=?vbx5x12) rfl (by kernel_rfl) (by kernel_rfl) (by kernel_rfl) (fun _ _ _ h => h) (Or.inl ⟨by rfl,?ybx5x12⟩) hHeld ?rbx5x12
        case ybx5x12 =>
          intro w' hSw
          obtain ⟨hSw0,hSw1,hSw2,hSw3⟩:=hSw
          go_simp
          with_reducible rfl
        case rbx5x12 =>
        have cp90:=zp9.c0
        have cp91:=zp9.c1
        have cp92:=zp9.c2
        have cp93:=zp9.c3
        have gp90:=zp9.fz 0
        have gp91:=zp9.fz 1
        have gp92:=zp9.fz 2
        have gp93:=zp9.fz 3
        refine wpAnyH_ready (rs:=[7]) (by kernel_rfl) (by simp) ?_
        refine AllReadyH.cons rfl (fun K hK => ?_) AllReadyH.nil
        go_simp
        refine hK.out _ _ (sS.out _ (Q.Kept.put4 KT hgp9 _ _ _ _)) (fun hHeld => ?_)
        clear hK K
        have ep9:=rrow_put4 zp9 (.bool s9) (.slice ao9 k9 c9) (.bool false) (.slice ap9 j9 d9)
        have t7:=RT.put4 t7 zp9 (.bool s9) (.slice ao9 k9 c9) (.bool false) (.slice ap9 j9 d9)
        have t8:=RT.put4 t8 zp9 (.bool s9) (.slice ao9 k9 c9) (.bool false) (.slice ap9 j9 d9)
        have KT:=Q.Kept.put4 KT hgp9 (.bool s9) (.slice ao9 k9 c9) (.bool false) (.slice ap9 j9 d9)
        clear cp90 cp91 cp92 cp93 gp90 gp91 gp92 gp93 zp9
        unfold Q.put4 at t7 t8 KT ep9
        generalize (((w8.setCell ⟨p9,0,none⟩ (.bool s9)).setCell ⟨p9,1,none⟩ (.slice ao9 k9 c9)).setCell ⟨p9,2,none⟩ (.bool false)).setCell ⟨p9,3,none⟩ (.slice ap9 j9 d9) = Ws at ep9 t7 t8 KT hHeld ⊢
        refine wpAnyH_take (i:=8) (v:=?vbx8x13) rfl (by kernel_rfl) (by kernel_rfl) (by kernel_rfl) (fun _ _ _ h => h) (Or.inl ⟨by rfl,?ybx8x13⟩) hHeld ?rbx8x13
        case ybx8x13 =>
          intro w' hSw
          obtain ⟨hSw0,hSw1,hSw2,hSw3⟩:=hSw
          go_simp
          with_reducible rfl
        case rbx8x13 =>
        refine wpAnyH_done (by kernel_rfl) ?_ _
        go_wp2_with fail
        go_meet
        case rel => exact ⟨p9,s9,ao9,ap9,k9,c9,j9,d9,rfl,KT,ep9,t8.mono (Nat.zero_le _)⟩
      case rest =>
        obtain ⟨p9,s9,ao9,ap9,k9,c9,j9,d9,rfl,HD⟩:=hcut
        have b0:=HD.out.2.1.c0
        have b1:=HD.out.2.1.c1
        have b2:=HD.out.2.1.c2
        have b3:=HD.out.2.1.c3
        go_wp2_with fail
        refine (rt_round _ HD.out.2.2 (Nat.mul_pos (Nat.mul_pos (by decide) HLn.out.1) (by decide))).mono ?_
        rintro e w10 ⟨hk10,rfl⟩
        have HK10:=hid' ((HA6.out.1.trans HD.out.1).trans hk10)
        have hz:F.near ((U m x * (L.toNat:Int) + (U m' x' - U m x) * g) * 1000000000) (10 ^ 18 * L.toNat * (1:Int).toNat) = seg (m,x) (m',x') g L:=by
          unfold seg
          refine near_eq (Nat.mul_pos (Nat.mul_pos (by decide) HLn.out.1) (by decide)) (Nat.mul_pos HLn.out.1 (by decide)) ?_
          have hL:(L.toNat:Int) = L:=Int.toNat_of_nonneg (by have:=HH.out; omega)
          simp only [Int.natCast_mul,hL]
          rw [show (((1:Int).toNat:Nat):Int) = 1 from rfl,show ((10 ^ 18:Nat):Int) = 1000000000 * 1000000000 from rfl,Int.mul_one]
          show (U m x * L + (U m' x' - U m x) * g) * 1000000000 * (L * 1000000000) = (U m x * (L - g) + U m' x' * g) * (1000000000 * 1000000000 * L)
          have e1:U m x * L + (U m' x' - U m x) * g = U m x * (L - g) + U m' x' * g:=by rw [Int.mul_sub,Int.sub_mul]; omega
          rw [e1]
          generalize U m x * (L - g) + U m' x' * g = A
          simp only [Int.mul_comm,Int.mul_left_comm]
        rw [hz]
        clear hk10 b0 b1 b2 b3 hz
        generalize hgv:F.gridV (seg (m,x) (m',x') g L) = gv
        generalize hge:F.gridE (seg (m,x) (m',x') g L) = ge
        have HG:=hid' (And.intro hgv hge)
        clear hgv hge
        go_wp2_with fail
        go_ret2
        exact ⟨HK10.out,by show Ending.returned (.tuple #[.int .i64 gv,.int .i64 ge]) = Ending.returned (.tuple #[.int .i64 (F.gridV (seg (m,x) (m',x') g L)),.int .i64 (F.gridE (seg (m,x) (m',x') g L))]); rw [HG.out.1,HG.out.2]⟩
end V
end Go.Proofs.YtgofinhnlcbafaaGreat

namespace Go.Proofs.YtgofinhnlcbafaaGreat
open Go.RowKit
namespace V
open Q (hid' Row3 Row2 okN)
theorem okN_at {k:Int} {vs:List (Int × Int)} {ss:List Int} (h:okW k vs ss = true) (i:Nat) (hi:i < vs.length):okN (vs.getD i (0,0)).1 (vs.getD i (0,0)).2 = true:=by
 have hv:=(okW_parts h).2.1
 rw [List.all_eq_true] at hv
 exact hv (vs.getD i (0,0)) (by rw [List.getD_eq_getElem?_getD,List.getElem?_eq_getElem hi]; exact List.getElem_mem hi)
set_option maxRecDepth 100000 in
set_option maxHeartbeats 1500000 in
theorem piece_any (k:Int) (a1 a2:Option Addr) (n c m c':Nat) (vs:List (Int × Int)) (ss:List Int) (t:Int) (w:World) (h1:NSl w (.slice a1 n c) vs) (h2:ISl w (.slice a2 m c') ss) (ht:0≤t∧t≤1000000000) (ho:okW k vs ss = true) :
  Calls Tryz.prog 23 #[.agg #[.int .i64 k,.slice a1 n c,.slice a2 m c'],.int .i64 t] w fun e w' => Kept w w'∧∃ P Q g L,e = .returned (pcv P Q g L)∧PcOk P Q g L (sayW k vs ss t):=by
 have HS:=hid' (And.intro h1 (And.intro h2 ho))
 clear h1 h2 ho
 go_enter Tryz.func23,Tryz.ntmps23
 go_upto_region 1 with fail
 have hK:=((Kept.refl w).alloc (.cells #[.int .i64 k,.slice a1 n c,.slice a2 m c'] 25)).alloc (.cells #[.int .i64 0,.int .i64 0,.int .i64 0,.int .i64 0,.int .i64 0,.int .i64 0] 46)
 have hR:=(Row3.alloc 25 w (.int .i64 k) (.slice a1 n c) (.slice a2 m c')).kept ((Kept.refl _).alloc (.cells #[.int .i64 0,.int .i64 0,.int .i64 0,.int .i64 0,.int .i64 0,.int .i64 0] 46))
 have hZ:=World.rowIs_alloc (w.alloc (.cells #[.int .i64 k,.slice a1 n c,.slice a2 m c'] 25)) #[.int .i64 0,.int .i64 0,.int .i64 0,.int .i64 0,.int .i64 0,.int .i64 0] 46 (fun _ => .int .i64 0) (fun i hi => by
  match i,hi with
  | 0,_ => rfl
  | 1,_ => rfl
  | 2,_ => rfl
  | 3,_ => rfl
  | 4,_ => rfl
  | 5,_ => rfl)
 rw [World.size_alloc] at hZ
 generalize (w.alloc (.cells #[.int .i64 k,.slice a1 n c,.slice a2 m c'] 25)).alloc (.cells #[.int .i64 0,.int .i64 0,.int .i64 0,.int .i64 0,.int .i64 0,.int .i64 0] 46) = W at hK hR hZ ⊢
 obtain ⟨p2,hp2⟩:∃ p,p = w.heap.size + 1:=⟨_,rfl⟩
 rw [← hp2] at hZ ⊢
 obtain ⟨p1,hp1⟩:∃ p,p = w.heap.size:=⟨_,rfl⟩
 rw [← hp1] at hR ⊢
 have HZ:Hid (∀ V,Kept W V→V.cell? ⟨p2,0,none⟩ = some (.int .i64 0)∧V.cell? ⟨p2,1,none⟩ = some (.int .i64 0)∧V.cell? ⟨p2,2,none⟩ = some (.int .i64 0)∧V.cell? ⟨p2,3,none⟩ = some (.int .i64 0)∧V.cell? ⟨p2,4,none⟩ = some (.int .i64 0)∧V.cell? ⟨p2,5,none⟩ = some (.int .i64 0)∧V.frozen? ⟨p2,0,none⟩ = false∧V.frozen? ⟨p2,1,none⟩ = false∧V.frozen? ⟨p2,2,none⟩ = false∧V.frozen? ⟨p2,3,none⟩ = false∧V.frozen? ⟨p2,4,none⟩ = false∧V.frozen? ⟨p2,5,none⟩ = false):=fun V hV =>
  have h:=hZ.of_block (hV.block p2 hZ.lt)
  ⟨h.cell (i:=0) (show 0 < 6 by decide),h.cell (i:=1) (show 1 < 6 by decide),h.cell (i:=2) (show 2 < 6 by decide),h.cell (i:=3) (show 3 < 6 by decide),h.cell (i:=4) (show 4 < 6 by decide),h.cell (i:=5) (show 5 < 6 by decide),h.frozen 0,h.frozen 1,h.frozen 2,h.frozen 3,h.frozen 4,h.frozen 5⟩
 have n21:¬ p2 = p1:=by omega
 have HP:Hid (w.heap.size≤p2):=by show _≤_; omega
 have HK:=hid' hK
 have HR:=hid' hR
 have q0:=hR.c0
 have q1:=hR.c1
 have q2:=hR.c2
 clear hp1 hp2 hK hR hZ
 by_cases k2:k = 2
 ·
  subst k2
  go_wp2_with fail
  obtain ⟨lv,ls,hp⟩:=okW_pul HS.out.2.2
  have HN:=hid' (And.intro (okN_at HS.out.2.2 0 (by omega)) (okN_at HS.out.2.2 1 (by omega)))
  refine (pulseOf_any 2 a1 a2 n c m c' vs ss _ (HS.out.1.kept HK.out) (HS.out.2.1.kept HK.out) (by rw [HS.out.1.len]; exact lv) (by rw [HS.out.2.1.len]; exact ls)).mono ?_
  rintro e w1 ⟨hk1,rfl⟩
  have HK1:=hid' (And.intro (HK.out.trans hk1) hk1)
  have HE:Hid (sayW 2 vs ss t = sayP ((vs.getD 0 (0,0)).1,(vs.getD 0 (0,0)).2) ((vs.getD 1 (0,0)).1,(vs.getD 1 (0,0)).2) (ss.getD 0 0) (ss.getD 1 0) (ss.getD 2 0) (ss.getD 3 0) (ss.getD 4 0) t):=by show _ = _; unfold sayW; rw [if_pos rfl]
  have HPu:=hid' hp
  clear hk1 lv ls hp q0 q1 q2
  generalize (vs.getD 0 (0,0)).1 = x0 at *
  generalize (vs.getD 0 (0,0)).2 = x1 at *
  generalize (vs.getD 1 (0,0)).1 = x2 at *
  generalize (vs.getD 1 (0,0)).2 = x3 at *
  generalize ss.getD 0 0 = y0 at *
  generalize ss.getD 1 0 = y1 at *
  generalize ss.getD 2 0 = y2 at *
  generalize ss.getD 3 0 = y3 at *
  generalize ss.getD 4 0 = y4 at *
  unfold pul
  go_wp2_with fail
  refine (ppiece_any x0 x1 x2 x3 y0 y1 y2 y3 y4 t _ HPu.out ht HN.out.1 HN.out.2).mono ?_
  rintro e w2 ⟨hk2,⟨P0,P1⟩,⟨Q0,Q1⟩,g,L,rfl,hq⟩
  have HQ:=hid' hq
  have HK2:=hid' (HK1.out.1.trans hk2)
  obtain ⟨z0,z1,z2,z3,z4,z5,f0,f1,f2,f3,f4,f5⟩:=HZ.out w2 (HK1.out.2.trans hk2)
  clear hk2 hq
  unfold pcv
  go_wp2_with fail
  exact bodyPost_ret (v:=pcv (P0,P1) (Q0,Q1) g L) (by simp [pcv,results,Tryz.results23,go_sem,z0,z1,z2,z3,z4,z5]) rfl ⟨(Kept.setCell (Kept.setCell (Kept.setCell (Kept.setCell (Kept.setCell (Kept.setCell HK2.out (p:=⟨p2,0,none⟩) HP.out _) (p:=⟨p2,1,none⟩) HP.out _) (p:=⟨p2,2,none⟩) HP.out _) (p:=⟨p2,3,none⟩) HP.out _) (p:=⟨p2,4,none⟩) HP.out _) (p:=⟨p2,5,none⟩) HP.out _),(P0,P1),(Q0,Q1),g,L,rfl,by rw [HE.out]; exact HQ.out⟩
 by_cases k3:k = 3
 ·
  subst k3
  have HE:Hid (sayW 3 vs ss t = sayQ vs ss t):=by show _ = _; unfold sayW; rw [if_neg (by decide),if_pos rfl]
  go_wp2_with fail
  refine (qpiece_any 3 a1 a2 n c m c' vs ss t _ (HS.out.1.kept HK.out) (HS.out.2.1.kept HK.out) ht HS.out.2.2).mono ?_
  rintro e w2 ⟨hk2,⟨P0,P1⟩,⟨Q0,Q1⟩,g,L,rfl,hq⟩
  have HQ:=hid' hq
  have HK2:=hid' (HK.out.trans hk2)
  obtain ⟨z0,z1,z2,z3,z4,z5,f0,f1,f2,f3,f4,f5⟩:=HZ.out w2 hk2
  clear hk2 hq q0 q1 q2
  unfold pcv
  go_wp2_with fail
  exact bodyPost_ret (v:=pcv (P0,P1) (Q0,Q1) g L) (by simp [pcv,results,Tryz.results23,go_sem,z0,z1,z2,z3,z4,z5]) rfl ⟨(Kept.setCell (Kept.setCell (Kept.setCell (Kept.setCell (Kept.setCell (Kept.setCell HK2.out (p:=⟨p2,0,none⟩) HP.out _) (p:=⟨p2,1,none⟩) HP.out _) (p:=⟨p2,2,none⟩) HP.out _) (p:=⟨p2,3,none⟩) HP.out _) (p:=⟨p2,4,none⟩) HP.out _) (p:=⟨p2,5,none⟩) HP.out _),(P0,P1),(Q0,Q1),g,L,rfl,by rw [HE.out]; exact HQ.out⟩
 have b2:(k == 2) = false:=by simpa using k2
 have b3:(k == 3) = false:=by simpa using k3
 have HT0:=hid' ht.1
 have HE:Hid (sayW k vs ss t = lev (vs.getD (t % n).toNat (0,0))):=by show _ = _; unfold sayW; rw [if_neg k2,if_neg k3,HS.out.1.len]
 have hl:=fits_len (okW_parts HS.out.2.2).1
 have hln:=HS.out.1.len
 have hn0:1≤n:=by omega
 have hm0:0≤t % (n:Int):=Int.emod_nonneg _ (by omega)
 have hm1:t % (n:Int) < (n:Int):=Int.emod_lt_of_pos _ (by omega)
 obtain ⟨ao,cap,hv,hx⟩:=HS.out.1
 simp only [Value.slice.injEq] at hv
 obtain ⟨rfl,hl1,rfl⟩:=hv
 obtain ⟨b1,o1,rfl,hb0,hc0⟩:=hx (by omega)
 have nb1:¬ p2 = b1:=by have:=HP.out; omega
 have hb1:b1 < W.heap.size:=Nat.lt_of_lt_of_le hb0 HK.out.size
 have hc1:∀ j,j < vs.length→W.cell? ⟨b1,o1 + j * 2,none⟩ = some (.int .i64 (vs.getD j (0,0)).1)∧W.cell? ⟨b1,o1 + j * 2 + 1,none⟩ = some (.int .i64 (vs.getD j (0,0)).2):=fun j hj => by rw [Below.cell HK.out (p:=⟨b1,o1 + j * 2,none⟩) hb0,Below.cell HK.out (p:=⟨b1,o1 + j * 2 + 1,none⟩) hb0]; exact hc0 j hj
 obtain ⟨u0,u1⟩:=hc1 (t % (n:Int)).toNat (by omega)
 have HB:Hid (∀ V,Kept W V→V.cell? ⟨b1,o1 + (t % (n:Int)).toNat * 2,none⟩ = some (.int .i64 (vs.getD (t % (n:Int)).toNat (0,0)).1)∧V.cell? ⟨b1,o1 + (t % (n:Int)).toNat * 2 + 1,none⟩ = some (.int .i64 (vs.getD (t % (n:Int)).toNat (0,0)).2)):=fun V hV => ⟨(Below.cell hV (p:=⟨b1,o1 + (t % (n:Int)).toNat * 2,none⟩) hb1).trans u0,(Below.cell hV (p:=⟨b1,o1 + (t % (n:Int)).toNat * 2 + 1,none⟩) hb1).trans u1⟩
 have HO:=hid' (okN_at HS.out.2.2 (t % (n:Int)).toNat (by omega))
 obtain ⟨i,hi⟩:∃ i:Nat,t % (n:Int) = (i:Int):=⟨(t % (n:Int)).toNat,by omega⟩
 have hi':(t % (n:Int)).toNat = i:=by omega
 rw [hi'] at u0 u1 HO HE HB
 generalize vs.getD i (0,0) = y at u0 u1 HO HE HB
 obtain ⟨y0,y1⟩:=y
 dsimp only at u0 u1
 have e0:¬ n = 0:=by omega
 have e0':(n == 0) = false:=by simpa using e0
 have e1:¬ (n:Int) = 0:=by omega
 have e2:((n:Int) == 0) = false:=by simpa using e1
 have e3:(i:Int) < (n:Int):=by omega
 have e4:Int.tmod t (n:Int) = (i:Int):=by rw [Int.tmod_eq_emod_of_nonneg ht.1]; exact hi
 have e5:IntKind.i64.wrap (i:Int) = (i:Int):=by rw [IntKind.wrap_i64]; omega
 clear hx hc1 hb1 hl1 hl hln hn0 hm0 hm1 hi' hb0 hc0
 go_upto_region 6 with fail
 clear HS b2 b3 k2 k3 q2 ht
 have ht0:=HT0.out
 go_region_held3 (fun w' => w'.cell? ⟨p1,1,none⟩ = some (.slice (some ⟨b1,o1,none⟩) n c)∧w'.cell? ⟨b1,o1 + i * 2,none⟩ = some (.int .i64 y0)∧w'.cell? ⟨b1,o1 + i * 2 + 1,none⟩ = some (.int .i64 y1)) (go_keep) (first
  | (go_at_call 38; refine (level_any y0 y1 _).mono ?_; rintro e w1 ⟨hk1,rfl⟩; have K1:=(Kept.refl W).drew.trans hk1; have d1:=(HR.out.kept K1).c1; have d2:=(HB.out _ K1).1; have d3:=(HB.out _ K1).2; obtain ⟨z0,z1,z2,z3,z4,z5,f0,f1,f2,f3,f4,f5⟩:=HZ.out w1 K1))
 have HK1:=hid' (HK.out.trans K1)
 clear hk1 K1 d1 d2 d3 q0 q1 u0 u1 HR HB
 go_wp2
 exact bodyPost_ret (v:=pcv (y0,y1) (0,0) 0 0) (by simp [pcv,results,Tryz.results23,go_sem,z0,z1,z2,z3,z4,z5]) rfl ⟨(Kept.setCell (Kept.setCell (Kept.setCell (Kept.setCell (Kept.setCell (Kept.setCell HK1.out (p:=⟨p2,0,none⟩) HP.out _) (p:=⟨p2,1,none⟩) HP.out _) (p:=⟨p2,2,none⟩) HP.out _) (p:=⟨p2,3,none⟩) HP.out _) (p:=⟨p2,4,none⟩) HP.out _) (p:=⟨p2,5,none⟩) HP.out _),(y0,y1),(0,0),0,0,rfl,pc_level HO.out HE.out⟩
end V
end Go.Proofs.YtgofinhnlcbafaaGreat

namespace Go.Proofs.YtgofinhnlcbafaaGreat
open Go.RowKit
namespace V
open Q (hid' Row3 Row2 okN)
set_option maxRecDepth 100000 in
set_option maxHeartbeats 4000000 in
theorem at_any (k:Int) (a1 a2:Option Addr) (n c m c':Nat) (vs:List (Int × Int)) (ss:List Int) (t:Int) (w:World) (h1:NSl w (.slice a1 n c) vs) (h2:ISl w (.slice a2 m c') ss) :
  Calls Tryz.prog 8 #[.agg #[.int .i64 k,.slice a1 n c,.slice a2 m c'],.int .i64 t] w fun e w' => Kept w w'∧e = .returned (.tuple #[.int .i64 (atW k vs ss t).1,.int .i64 (atW k vs ss t).2]):=by
 have HS:=hid' (And.intro h1 h2)
 clear h1 h2
 go_enter Tryz.func8,Tryz.ntmps8
 go_upto_region 1 with fail
 have hK:=(Kept.refl w).alloc (.cells #[.int .i64 k,.slice a1 n c,.slice a2 m c'] 25)
 have hR:=Row3.alloc 25 w (.int .i64 k) (.slice a1 n c) (.slice a2 m c')
 generalize w.alloc (.cells #[.int .i64 k,.slice a1 n c,.slice a2 m c'] 25) = W at hK hR ⊢
 obtain ⟨p1,hp1⟩:∃ p,p = w.heap.size:=⟨_,rfl⟩
 rw [← hp1] at hR ⊢
 have HK:=hid' hK
 have HR:=hid' hR
 have q0:=hR.c0
 have q1:=hR.c1
 have q2:=hR.c2
 clear hp1 hK hR
 go_wp2_with fail
 refine (valid_any k a1 a2 n c m c' vs ss _ (HS.out.1.kept HK.out) (HS.out.2.kept HK.out)).mono ?_
 rintro e w1 ⟨hk1,rfl⟩
 have HK1:=hid' (HK.out.trans hk1)
 have HR1:=hid' (HR.out.kept hk1)
 clear hk1 q0 q1 q2
 by_cases ho:okW k vs ss = true
 ·
  rw [ho]
  have HO:=hid' ho
  clear ho
  go_wp2_with fail
  refine (isStep_any t _).mono ?_
  rintro e w2 ⟨rfl,rfl⟩
  by_cases ht:okS t = true
  ·
   rw [ht]
   have HT:=hid' ht
   have ht':0≤t∧t≤1000000000:=by unfold okS at ht; simpa using ht
   have HT':=hid' ht'
   clear ht ht'
   have q0:=HR1.out.c0
   have q1:=HR1.out.c1
   have q2:=HR1.out.c2
   go_wp2_with fail
   refine (piece_any k a1 a2 n c m c' vs ss t _ (HS.out.1.kept HK1.out) (HS.out.2.kept HK1.out) HT'.out HO.out).mono ?_
   rintro e w3 ⟨hk3,⟨P0,P1⟩,⟨Q0,Q1⟩,g,L,rfl,hq⟩
   have HK3:=hid' (HK1.out.trans hk3)
   have HQ:=hid' hq
   clear hk3 hq q0 q1 q2
   unfold pcv
   go_wp2_with fail
   refine (onGrid_any P0 P1 Q0 Q1 g L _ HQ.out.1 HQ.out.2.1).mono ?_
   rintro e w4 ⟨hk4,z,hz,rfl⟩
   have HZ:Hid (atW k vs ss t = (F.gridV z,F.gridE z)):=by
    show _ = _
    unfold atW
    rw [if_pos HO.out,if_pos HT.out,HQ.out.2.2,hz]
   have HK4:=hid' (HK3.out.trans hk4)
   clear hk4 hz
   generalize F.gridV z = gv at *
   generalize F.gridE z = ge at *
   go_wp2_with fail
   go_ret2
   exact ⟨HK4.out,by rw [HZ.out]; rfl⟩
  ·
   have ht:okS t = false:=by simpa using ht
   rw [ht]
   have HZ:Hid (atW k vs ss t = (0,4)):=by
    show _ = _
    unfold atW
    rw [if_pos HO.out,ht,if_neg (by decide)]
   go_wp2_with fail
   go_ret2
   exact ⟨HK1.out,by rw [HZ.out]; rfl⟩
 ·
  have ho:okW k vs ss = false:=by simpa using ho
  rw [ho]
  have HZ:Hid (atW k vs ss t = (0,40)):=by
   show _ = _
   unfold atW
   rw [ho,if_neg (by decide)]
  go_wp2_with fail
  go_ret2
  exact ⟨HK1.out,by rw [HZ.out]; rfl⟩
end V
end Go.Proofs.YtgofinhnlcbafaaGreat

namespace Go.Proofs.YtgofinhnlcbafaaGreat
open Go.RowKit
namespace V
open Q (hid' Row3 Row2 okN)
set_option maxRecDepth 100000 in
set_option maxHeartbeats 4000000 in
theorem awake_any (w:World):Calls Tryz.prog 4 #[] w fun e w' => Kept w w'∧e = .returned (.bool true):=by
 go_enter Tryz.func4,Tryz.ntmps4
 go_upto_region 2 with fail
 have hK:=(((Kept.refl w).alloc (.cells #[.int .i64 0,.int .i64 0,.int .i64 1,.int .i64 0] 39)).alloc (.cells #[.int .i64 1,.int .i64 4] 3)).alloc (.cells #[.int .i64 3,.slice (some ⟨w.heap.size,0,none⟩) 2 2,.slice (some ⟨w.heap.size + 1,0,none⟩) 2 2] 25)
 have r1:=((rowL 39 w #[.int .i64 0,.int .i64 0,.int .i64 1,.int .i64 0]).of_block (((Kept.refl _).alloc (.cells #[.int .i64 1,.int .i64 4] 3)).block w.heap.size (rowL 39 w #[.int .i64 0,.int .i64 0,.int .i64 1,.int .i64 0]).lt))
 have r2:=rowL 3 (w.alloc (.cells #[.int .i64 0,.int .i64 0,.int .i64 1,.int .i64 0] 39)) #[.int .i64 1,.int .i64 4]
 rw [World.size_alloc] at r2
 have hR:=Row3.alloc 25 ((w.alloc (.cells #[.int .i64 0,.int .i64 0,.int .i64 1,.int .i64 0] 39)).alloc (.cells #[.int .i64 1,.int .i64 4] 3)) (.int .i64 3) (.slice (some ⟨w.heap.size,0,none⟩) 2 2) (.slice (some ⟨w.heap.size + 1,0,none⟩) 2 2)
 simp only [World.size_alloc] at hR
 have hK3:=(Kept.refl ((w.alloc (.cells #[.int .i64 0,.int .i64 0,.int .i64 1,.int .i64 0] 39)).alloc (.cells #[.int .i64 1,.int .i64 4] 3))).alloc (.cells #[.int .i64 3,.slice (some ⟨w.heap.size,0,none⟩) 2 2,.slice (some ⟨w.heap.size + 1,0,none⟩) 2 2] 25)
 have hN:NSl ((w.alloc (.cells #[.int .i64 0,.int .i64 0,.int .i64 1,.int .i64 0] 39)).alloc (.cells #[.int .i64 1,.int .i64 4] 3)) (.slice (some ⟨w.heap.size,0,none⟩) 2 2) [(0,0),(1,0)]:=⟨_,2,rfl,fun _ => ⟨w.heap.size,0,rfl,r1.lt,fun j hj => by
  match j,hj with
  | 0,_ => exact ⟨r1.cell (i:=0) (show 0 < 4 by decide),r1.cell (i:=1) (show 1 < 4 by decide)⟩
  | 1,_ => exact ⟨r1.cell (i:=2) (show 2 < 4 by decide),r1.cell (i:=3) (show 3 < 4 by decide)⟩⟩⟩
 have hI:ISl ((w.alloc (.cells #[.int .i64 0,.int .i64 0,.int .i64 1,.int .i64 0] 39)).alloc (.cells #[.int .i64 1,.int .i64 4] 3)) (.slice (some ⟨w.heap.size + 1,0,none⟩) 2 2) [1,4]:=⟨_,2,rfl,fun _ => ⟨w.heap.size + 1,0,rfl,r2.lt,fun j hj => by
  match j,hj with
  | 0,_ => exact r2.cell (i:=0) (show 0 < 2 by decide)
  | 1,_ => exact r2.cell (i:=1) (show 1 < 2 by decide)⟩⟩
 have hN:=hN.kept hK3
 have hI:=hI.kept hK3
 generalize ((w.alloc (.cells #[.int .i64 0,.int .i64 0,.int .i64 1,.int .i64 0] 39)).alloc (.cells #[.int .i64 1,.int .i64 4] 3)).alloc (.cells #[.int .i64 3,.slice (some ⟨w.heap.size,0,none⟩) 2 2,.slice (some ⟨w.heap.size + 1,0,none⟩) 2 2] 25) = W at hK hR hN hI ⊢
 obtain ⟨p3,hp3⟩:∃ p,p = w.heap.size + 1 + 1:=⟨_,rfl⟩
 rw [← hp3] at hR ⊢
 obtain ⟨p2,hp2⟩:∃ p,p = w.heap.size + 1:=⟨_,rfl⟩
 rw [← hp2] at hR hI ⊢
 obtain ⟨p1,hp1⟩:∃ p,p = w.heap.size:=⟨_,rfl⟩
 rw [← hp1] at hR hN ⊢
 have HK:=hid' hK
 have HR:=hid' hR
 have HN:=hid' (And.intro hN hI)
 have q0:=hR.c0
 have q1:=hR.c1
 have q2:=hR.c2
 clear hp1 hp2 hp3 hK hR hN hI r1 r2 hK3
 go_wp2_with fail
 refine (at_any 3 _ _ 2 2 2 2 _ _ 2 _ HN.out.1 HN.out.2).mono ?_
 rintro e w1 ⟨hk1,rfl⟩
 have hA:atW 3 [(0,0),(1,0)] [1,4] 2 = (333333333,0):=by kernel_rfl
 rw [hA]
 have HK1:=hid' (And.intro (HK.out.trans hk1) hk1)
 clear hk1 hA q0 q1 q2
 have q0:=(HR.out.kept HK1.out.2).c0
 have q1:=(HR.out.kept HK1.out.2).c1
 have q2:=(HR.out.kept HK1.out.2).c2
 go_wp2_with fail
 refine (next_any 3 _ _ 2 2 2 2 _ _ 1 _ (HN.out.1.kept HK1.out.2) (HN.out.2.kept HK1.out.2)).mono ?_
 rintro e w2 ⟨hk2,rfl⟩
 have hA:nextW 3 [(0,0),(1,0)] [1,4] 1 = (4,true):=by kernel_rfl
 rw [hA]
 have HK2:=hid' (And.intro (HK1.out.1.trans hk2) (HK1.out.2.trans hk2))
 clear hk2 hA q0 q1 q2
 have q0:=(HR.out.kept HK2.out.2).c0
 have q1:=(HR.out.kept HK2.out.2).c1
 have q2:=(HR.out.kept HK2.out.2).c2
 go_wp2_with fail
 refine (valid_any 3 _ _ 2 2 2 2 _ _ _ (HN.out.1.kept HK2.out.2) (HN.out.2.kept HK2.out.2)).mono ?_
 rintro e w3 ⟨hk3,rfl⟩
 have hA:okW 3 [(0,0),(1,0)] [1,4] = true:=by kernel_rfl
 rw [hA]
 have HK3:=hid' (HK2.out.1.trans hk3)
 clear hk3 hA q0 q1 q2
 go_wp2_with fail
 refine (valid_any 0 none none 0 0 0 0 [] [] _ ⟨none,0,rfl,fun h => absurd h (by decide)⟩ ⟨none,0,rfl,fun h => absurd h (by decide)⟩).mono ?_
 rintro e w4 ⟨hk4,rfl⟩
 have hA:okW 0 [] [] = false:=by kernel_rfl
 rw [hA]
 have HK4:=hid' (HK3.out.trans hk4)
 clear hk4 hA
 go_wp2_with fail
 go_ret
 exact ⟨HK4.out,rfl⟩
end V
end Go.Proofs.YtgofinhnlcbafaaGreat
