/- Plain mathematics of corners. Plain mathematics of the reference's corners. shuntref04.Next. What lent answers; a wave whose values are all one. Regions whose last step stores what they load: a condition held till that step. lent of package shuntlaw04. -/
import Derived.Test.YtgofinhnlcbafaaGreatGax
import Derived.Test.YtgofinhnlcbafaaGreatGar
import Derived.Deep.AppendLies
namespace Go.Proofs.YtgofinhnlcbafaaGreat
open Go.RowKit
namespace V
end V
end Go.Proofs.YtgofinhnlcbafaaGreat

namespace Go.Proofs.YtgofinhnlcbafaaGreat
open Go.RowKit
namespace V
def nxo (d P t o:Int):Int:=if d + o≤t then d + o + ((t - (d + o)) / P + 1) * P else d + o
theorem nxo_eq {d P t o:Int} (hP:1≤P) (hd:¬ t < d) (h0:0≤o) (h1:o≤P):nxo d P t o = t - (t - d) % P + (if (t - d) % P < o then o else o + P):=by
 have e:=Int.mul_ediv_add_emod (t - d) P
 have u0:=Int.emod_nonneg (t - d) (show P ≠ 0 by omega)
 have u1:=Int.emod_lt_of_pos (t - d) (show 0 < P by omega)
 have q0:=Int.ediv_nonneg (show 0≤t - d by omega) (show 0≤P by omega)
 unfold nxo
 generalize (t - d) % P = u at *
 generalize (t - d) / P = q at *
 by_cases ho:u < o
 ·
  rw [if_pos ho]
  by_cases hc:d + o≤t
  ·
   rw [if_pos hc]
   have hq:(t - (d + o)) / P = q - 1:=by
    have e2:t - (d + o) = (u - o + P) + P * (q - 1):=by rw [Int.mul_sub,Int.mul_one]; omega
    rw [e2,Int.add_mul_ediv_left _ _ (by omega),Int.ediv_eq_zero_of_lt (by omega) (by omega)]
    omega
   rw [hq,show q - 1 + 1 = q by omega,Int.mul_comm q]
   omega
  ·
   rw [if_neg hc]
   have hq:q = 0:=by
    rcases Int.lt_or_le q 1 with h | h
    ·
     omega
    ·
     exfalso
     have:=Int.mul_le_mul_of_nonneg_left h (show 0≤P by omega)
     rw [Int.mul_one] at this
     omega
   subst hq
   rw [Int.mul_zero] at e
   omega
 ·
  rw [if_neg ho]
  have hpq:=Int.mul_nonneg (show 0≤P by omega) q0
  rw [if_pos (by omega)]
  have hq:(t - (d + o)) / P = q:=by
   have e2:t - (d + o) = (u - o) + P * q:=by omega
   rw [e2,Int.add_mul_ediv_left _ _ (by omega),Int.ediv_eq_zero_of_lt (by omega) (by omega)]
   omega
  rw [hq,Int.add_mul,Int.one_mul,Int.mul_comm q]
  omega
theorem nxo_min {d r b f P t B:Int} (h:Pul d r b f P):min (min (min (min B (nxo d P t 0)) (nxo d P t r)) (nxo d P t (r + b))) (nxo d P t (r + b + f)) = min B (corP d r b f P t):=by
 obtain ⟨_,_,r0,b0,f0,p0,_,s⟩:=h
 by_cases hd:t < d
 ·
  rw [corP_eq,if_pos hd]
  unfold nxo
  rw [if_neg (by omega),if_neg (by omega),if_neg (by omega),if_neg (by omega)]
  omega
 ·
  rw [nxo_eq p0 hd (Int.le_refl _) (by omega),nxo_eq p0 hd r0 (by omega),nxo_eq p0 hd (show 0≤r + b by omega) (by omega),nxo_eq p0 hd (show 0≤r + b + f by omega) s,corP_eq,if_neg hd]
  have u0:=Int.emod_nonneg (t - d) (show P ≠ 0 by omega)
  have u1:=Int.emod_lt_of_pos (t - d) (show 0 < P by omega)
  generalize (t - d) % P = u at *
  unfold cinP
  repeat' split
  all_goals omega
theorem nxo_bd {d P t o:Int} (hP:1≤P) (hp:P≤1000000000) (hd:0≤d) (hd1:d≤1000000000) (h0:0≤o) (h1:o≤P) (ht:t≤1000000000):d + o≤t→0≤(t - (d + o)) / P∧(t - (d + o)) / P≤1000000000∧0≤((t - (d + o)) / P + 1) * P∧((t - (d + o)) / P + 1) * P≤2000000000:=by
 intro hc
 have e:=Int.mul_ediv_add_emod (t - (d + o)) P
 have u0:=Int.emod_nonneg (t - (d + o)) (show P ≠ 0 by omega)
 have q0:=Int.ediv_nonneg (show 0≤t - (d + o) by omega) (show 0≤P by omega)
 have q1:=Int.ediv_le_self P (show 0≤t - (d + o) by omega)
 generalize (t - (d + o)) / P = q at *
 have:=Int.mul_nonneg (show 0≤P by omega) q0
 rw [Int.add_mul,Int.one_mul,Int.mul_comm q]
 omega
end V
end Go.Proofs.YtgofinhnlcbafaaGreat

namespace Go.Proofs.YtgofinhnlcbafaaGreat
open Go.RowKit
namespace V
open Q (hid' Row3 Row2 okN)
theorem next_said {k:Int} {vs:List (Int × Int)} {ss:List Int} {t best:Int} (h:okW k vs ss = true) (ht:0≤t∧t≤1000000000) (h0:corW k ss t = none→1000000000 < best) (h1:∀ c,corW k ss t = some c→min 1000000001 best = min 1000000001 c):nextW k vs ss t = if 1000000000 < best then (0,false) else (best,true):=by
 have hs:okS t = true:=by unfold okS; simpa using ht
 unfold nextW nxtW
 rw [if_pos ⟨h,hs⟩]
 cases hc:corW k ss t with
 | none => rw [if_pos (h0 hc)]
 | some c =>
  have hb:=h1 c hc
  dsimp only
  by_cases hl:c≤1000000000
  ·
   have e:best = c:=by omega
   rw [if_pos hl,if_neg (by omega),e]
  ·
   rw [if_neg hl,if_pos (by omega)]
theorem rise_le {ss:List Int} (h:riseB ss = true) {i j:Nat} (hij:i < j) (hj:j < ss.length):ss.getD i 0 < ss.getD j 0:=by
 have hr:=(riseB_iff ss).1 h
 induction j with
 | zero => omega
 | succ j ih =>
  by_cases e:i = j
  ·
   subst e; exact hr i hj
  ·
   have:=ih (by omega) (by omega)
   have:=hr j hj
   omega
def bst (ss:List Int) (t:Int) (j:Nat):Int:=if fa ss t < j then ss.getD (fa ss t) 0 else 1000000001
theorem bst_yes {ss:List Int} {t:Int} {j:Nat} (hr:riseB ss = true) (hj:j < ss.length) (h1:t < ss.getD j 0) (h2:ss.getD j 0 < bst ss t j):bst ss t (j + 1) = ss.getD j 0:=by
 unfold bst at *
 have hle:=fa_le ss t
 rcases Nat.lt_trichotomy (fa ss t) j with h | h | h
 ·
  rw [if_pos h] at h2
  have:=rise_le hr h hj
  omega
 ·
  rw [if_pos (by omega),h]
 ·
  have:=fa_below h
  omega
theorem bst_no {ss:List Int} {t:Int} {j:Nat} (hs:ss.all okS = true) (hj:j < ss.length) (h1:¬ (t < ss.getD j 0∧ss.getD j 0 < bst ss t j)):bst ss t (j + 1) = bst ss t j:=by
 unfold bst at *
 rcases Nat.lt_trichotomy (fa ss t) j with h | h | h
 ·
  rw [if_pos h,if_pos (by omega)]
 ·
  have h3:=fa_at (l:=ss) (t:=t) (by omega)
  have h4:=okS_all hs (fa ss t) (by omega)
  rw [if_neg (by omega)] at h1
  rw [h] at h3 h4
  exact absurd ⟨h3,by omega⟩ h1
 ·
  rw [if_neg (by omega),if_neg (by omega)]
theorem bst_end {vs:List (Int × Int)} {ss:List Int} {t:Int} (h:okW 3 vs ss = true) (ht:0≤t∧t≤1000000000):nextW 3 vs ss t = if 1000000000 < bst ss t ss.length then (0,false) else (bst ss t ss.length,true):=by
 have hle:=fa_le ss t
 refine next_said h ht (fun hc => ?_) (fun c hc => ?_)
 ·
  unfold corW at hc
  rw [if_neg (by decide),if_pos rfl] at hc
  by_cases hf:fa ss t = ss.length
  ·
   unfold bst; rw [if_neg (by omega)]; decide
  ·
   rw [if_neg hf] at hc; simp at hc
 ·
  unfold corW at hc
  rw [if_neg (by decide),if_pos rfl] at hc
  by_cases hf:fa ss t = ss.length
  ·
   rw [if_pos hf] at hc; simp at hc
  ·
   rw [if_neg hf] at hc
   simp only [Option.some.injEq] at hc
   unfold bst
   rw [if_pos (by omega),hc]
def ofs (r b f:Int):Nat→Int
 | 0 => 0
 | 1 => r
 | 2 => r + b
 | _ => r + b + f
theorem ofs_bd {d r b f P:Int} (h:Pul d r b f P) {j:Nat} (hj:j < 4):0≤ofs r b f j∧ofs r b f j≤P:=by
 obtain ⟨_,_,r0,b0,f0,p0,_,s⟩:=h
 match j,hj with
 | 0,_ => exact ⟨Int.le_refl _,by show (0:Int)≤P; omega⟩
 | 1,_ => exact ⟨r0,by show r≤P; omega⟩
 | 2,_ => exact ⟨by show 0≤r + b; omega,by show r + b≤P; omega⟩
 | 3,_ => exact ⟨by show 0≤r + b + f; omega,s⟩
def mnx (d r b f P t:Int):Nat→Int
 | 0 => 1000000001
 | 1 => min 1000000001 (nxo d P t 0)
 | 2 => min (min 1000000001 (nxo d P t 0)) (nxo d P t r)
 | 3 => min (min (min 1000000001 (nxo d P t 0)) (nxo d P t r)) (nxo d P t (r + b))
 | _ => min (min (min (min 1000000001 (nxo d P t 0)) (nxo d P t r)) (nxo d P t (r + b))) (nxo d P t (r + b + f))
theorem mnx_succ {d r b f P t:Int} {j:Nat} (hj:j < 4):mnx d r b f P t (j + 1) = min (mnx d r b f P t j) (nxo d P t (ofs r b f j)):=by
 match j,hj with
 | 0,_ => rfl
 | 1,_ => rfl
 | 2,_ => rfl
 | 3,_ => rfl
set_option maxRecDepth 100000 in
set_option maxHeartbeats 4000000 in
theorem rnext_any (k:Int) (a1 a2:Option Addr) (n c m c':Nat) (vs:List (Int × Int)) (ss:List Int) (t:Int) (w:World) (h1:NSl w (.slice a1 n c) vs) (h2:ISl w (.slice a2 m c') ss) (hn:n≤9223372036854775807) (hm:m≤9223372036854775807) :
  Calls Tryz.prog 11 #[.agg #[.int .i64 k,.slice a1 n c,.slice a2 m c'],.int .i64 t] w fun e w' => Kept w w'∧e = .returned (.tuple #[.int .i64 (nextW k vs ss t).1,.bool (nextW k vs ss t).2]):=by
 have HS:=hid' (And.intro h1 h2)
 clear h1 h2
 go_enter Tryz.func11,Tryz.ntmps11
 go_upto_region 1 with fail
 have hK:=(Kept.refl w).alloc (.cells #[.int .i64 k,.slice a1 n c,.slice a2 m c'] 25)
 have hR:=Row3.alloc 25 w (.int .i64 k) (.slice a1 n c) (.slice a2 m c')
 generalize w.alloc (.cells #[.int .i64 k,.slice a1 n c,.slice a2 m c'] 25) = W at hK hR ⊢
 obtain ⟨p1,hp1⟩:∃ p,p = w.heap.size:=⟨_,rfl⟩
 rw [← hp1] at hR ⊢
 have HK:=hid' hK
 have HR:=hid' hR
 have q0:=hR.c0
 have q1:=hR.c1
 have q2:=hR.c2
 clear hp1 hK hR
 go_wp2_with fail
 refine (rvalid_any k a1 a2 n c m c' vs ss _ (HS.out.1.kept HK.out) (HS.out.2.kept HK.out) hn hm).mono ?_
 rintro e w1 ⟨hk1,rfl⟩
 have HK1:=hid' (HK.out.trans hk1)
 have HR1:=hid' (HR.out.kept hk1)
 clear hk1 q0 q1 q2
 by_cases ho:okW k vs ss = true
 ·
  have HO:=hid' ho
  rw [ho]
  clear ho
  have q0:=HR1.out.c0
  have q1:=HR1.out.c1
  have q2:=HR1.out.c2
  by_cases ht0:t < 0
  ·
   have HN:Hid (nextW k vs ss t = (0,false)):=by show _ = _; unfold nextW; rw [if_neg (by unfold okS; simp; omega)]
   go_wp2_with fail
   all_goals
    go_ret2
    exact ⟨HK1.out,by rw [HN.out]; rfl⟩
  by_cases ht1:1000000000 < t
  ·
   have HN:Hid (nextW k vs ss t = (0,false)):=by show _ = _; unfold nextW; rw [if_neg (by unfold okS; simp; omega)]
   have ht0':0≤t:=by omega
   go_wp2_with fail
   all_goals
    go_ret2
    exact ⟨HK1.out,by rw [HN.out]; rfl⟩
  have e0:0≤t∧t≤1000000000:=by omega
  have f0:0≤t:=by omega
  have f1:t≤1000000000:=by omega
  by_cases k1:k = 1
  ·
   subst k1
   have HN:Hid (nextW 1 vs ss t = (0,false)):=by show _ = _; unfold nextW nxtW corW; simp
   go_wp2_with fail
   all_goals
    go_ret2
    exact ⟨HK1.out,by rw [HN.out]; rfl⟩
  have b1:(k == 1) = false:=by simpa using k1
  by_cases k4:k = 4
  ·
   subst k4
   have HN:Hid (nextW 4 vs ss t = if 1000000000 < t + 1 then (0,false) else (t + 1,true)):=next_said HO.out e0 (fun h => by unfold corW at h; simp at h) (fun c h => by unfold corW at h; simp at h; rw [h])
   have e1:IntKind.i64.wrap (t + 1) = t + 1:=by rw [IntKind.wrap_i64]; omega
   obtain rfl:m = 0:=by have h1:=(fits4 (okW_parts HO.out).1).2; have h2:=HS.out.2.len; omega
   go_wp2_with fail
   go_loopw [6,7] (fun vb vi wr => vb = .int .i64 (t + 1)∧vi = .int .i64 0∧wr = w1) (fun _ _ _ => 0)
   case atStart => exact ⟨rfl,rfl,rfl⟩
   case round =>
    obtain ⟨rfl,rfl,hw⟩:=hrel
    subst hw
    by_cases hl:1000000000 < t + 1
    ·
     rw [if_pos hl] at HN
     go_wp2_with fail
     all_goals
      go_ret2
      exact ⟨HK1.out,by rw [HN.out]; rfl⟩
    ·
     rw [if_neg hl] at HN
     go_wp2_with fail
     all_goals
      go_ret2
      exact ⟨HK1.out,by rw [HN.out]; rfl⟩
  have b4:(k == 4) = false:=by simpa using k4
  by_cases k3:k = 3
  ·
   subst k3
   obtain ⟨_,_,hs,hh⟩:=okW_parts HO.out
   have hr:riseB ss = true:=by unfold hangB at hh; simpa using hh
   have HB:=hid' (And.intro hs hr)
   have HLm:=hid' HS.out.2.len
   have HE:=hid' (bst_end HO.out e0)
   have hm1:m≤16:=by have h1:=fits3 (okW_parts HO.out).1; have h2:=HS.out.2.len; omega
   clear hs hh hr
   go_wp2_with fail
   go_loopw [6,7] (fun vb vi wr => ∃ j:Nat,j≤m∧vb = .int .i64 (bst ss t j)∧vi = .int .i64 (j:Int)∧wr = w1) (fun _ vi _ => m - (intOf vi).toNat)
   case atStart => exact ⟨0,Nat.zero_le _,rfl,rfl,rfl⟩
   case round =>
    obtain ⟨j,hj,rfl,rfl,hw⟩:=hrel
    subst hw
    by_cases hlt:j < m
    ·
     have hltz:(j:Int) < (m:Int):=by omega
     obtain ⟨ao',cap',hv,hx⟩:=HS.out.2.kept HK1.out
     simp only [Value.slice.injEq] at hv
     obtain ⟨rfl,hm',rfl⟩:=hv
     obtain ⟨bb,off,rfl,hbb,hc⟩:=hx (by omega)
     have c0:=hc j (by omega)
     have HY1:Hid (t < ss.getD j 0∧ss.getD j 0 < bst ss t j→bst ss t (j + 1) = ss.getD j 0):=fun h => bst_yes HB.out.2 (by omega) h.1 h.2
     have HY2:Hid (¬ (t < ss.getD j 0∧ss.getD j 0 < bst ss t j)→bst ss t (j + 1) = bst ss t j):=fun h => bst_no HB.out.1 (by omega) h
     clear hx hc hbb hm'
     generalize ss.getD j 0 = y at *
     generalize bst ss t j = z at *
     by_cases h1:t < y
     ·
      by_cases h2:y < z
      ·
       go_wp2_with fail
       go_roundw
       case rel => exact ⟨j + 1,by omega,by rw [HY1.out ⟨h1,h2⟩],by go_num,trivial⟩
       case measure => show m - ((j:Int) + 1).toNat < m - (j:Int).toNat; omega
      ·
       go_wp2_with fail
       go_roundw
       case rel => exact ⟨j + 1,by omega,by rw [HY2.out (fun h => h2 h.2)],by go_num,trivial⟩
       case measure => show m - ((j:Int) + 1).toNat < m - (j:Int).toNat; omega
     ·
      go_wp2_with fail
      go_roundw
      case rel => exact ⟨j + 1,by omega,by rw [HY2.out (fun h => h1 h.1)],by go_num,trivial⟩
      case measure => show m - ((j:Int) + 1).toNat < m - (j:Int).toNat; omega
    ·
     obtain rfl:j = m:=by omega
     have hltz:¬ (j:Int) < (j:Int):=by omega
     rw [← HLm.out] at HE
     generalize bst ss t j = z at *
     by_cases hl:1000000000 < z
     ·
      rw [if_pos hl] at HE
      go_wp2_with fail
      all_goals
       go_ret2
       exact ⟨HK1.out,by rw [HE.out]; rfl⟩
     ·
      rw [if_neg hl] at HE
      go_wp2_with fail
      all_goals
       go_ret2
       exact ⟨HK1.out,by rw [HE.out]; rfl⟩
  have b3:(k == 3) = false:=by simpa using k3
  obtain rfl:k = 2:=by have:=fits_kind (okW_parts HO.out).1; omega
  obtain ⟨lv,ls,hp⟩:=okW_pul HO.out
  obtain rfl:m = 5:=by have h2:=HS.out.2.len; omega
  obtain ⟨ao',cap',hv,hx⟩:=HS.out.2.kept HK1.out
  simp only [Value.slice.injEq] at hv
  obtain ⟨rfl,hm',rfl⟩:=hv
  obtain ⟨bb,off,rfl,hbb,hc⟩:=hx (by omega)
  have v0:=hc 0 (by omega)
  have v1:=hc 1 (by omega)
  have v2:=hc 2 (by omega)
  have v3:=hc 3 (by omega)
  have v4:=hc 4 (by omega)
  have HN:Hid (nextW 2 vs ss t = if 1000000000 < min 1000000001 (corP (ss.getD 0 0) (ss.getD 1 0) (ss.getD 2 0) (ss.getD 3 0) (ss.getD 4 0) t) then (0,false) else (min 1000000001 (corP (ss.getD 0 0) (ss.getD 1 0) (ss.getD 2 0) (ss.getD 3 0) (ss.getD 4 0) t),true)):=next_said HO.out e0 (fun h => by unfold corW at h; simp at h) (fun c h => by unfold corW at h; rw [if_pos rfl] at h; simp only [Option.some.injEq] at h; rw [h]; omega)
  rw [← nxo_min hp] at HN
  have HP:=hid' hp
  have HBB:=hid' hbb
  simp only [Nat.add_zero] at v0
  clear hx hc hbb hm' lv ls hp k1 k3 k4 b1 b3 b4
  generalize ss.getD 0 0 = d at *
  generalize ss.getD 1 0 = r at *
  generalize ss.getD 2 0 = b at *
  generalize ss.getD 3 0 = f at *
  generalize ss.getD 4 0 = P at *
  go_wp2_with fail
  go_loopw [6,7] (fun vb vi wr => vb = .int .i64 1000000001∧vi = .int .i64 0∧wr = w1) (fun _ _ _ => 0)
  case atStart => exact ⟨rfl,rfl,rfl⟩
  case round =>
   obtain ⟨rfl,rfl,hw⟩:=hrel
   subst hw
   have s1:IntKind.i64.wrap (r + b) = r + b:=by have:=HP.out; rw [IntKind.wrap_i64]; have:=this.r0; have:=HP.out.b0; have:=HP.out.f0; have:=HP.out.s; have:=HP.out.p1; omega
   have s2:IntKind.i64.wrap (r + b + f) = r + b + f:=by rw [IntKind.wrap_i64]; have:=HP.out.r0; have:=HP.out.b0; have:=HP.out.f0; have:=HP.out.s; have:=HP.out.p1; omega
   go_upto_region 12 with fail
   go_region_held3 (fun w' => w'.cell? ⟨p1,2,none⟩ = some (.slice (some ⟨bb,off,none⟩) 5 c')∧w'.cell? ⟨bb,off,none⟩ = some (.int .i64 d)∧w'.cell? ⟨bb,off + 1,none⟩ = some (.int .i64 r)∧w'.cell? ⟨bb,off + 2,none⟩ = some (.int .i64 b)∧w'.cell? ⟨bb,off + 3,none⟩ = some (.int .i64 f)∧w'.cell? ⟨bb,off + 4,none⟩ = some (.int .i64 P)) (go_keep) (fail)
   have hKO:=((Kept.refl wr).alloc (.cells #[.int .i64 0,.int .i64 r,.int .i64 (r + b),.int .i64 (r + b + f)] 3)).drew
   have hRO:=rowL 3 wr #[.int .i64 0,.int .i64 r,.int .i64 (r + b),.int .i64 (r + b + f)]
   have hcell:∀ j,j < 4→(wr.alloc (.cells #[.int .i64 0,.int .i64 r,.int .i64 (r + b),.int .i64 (r + b + f)] 3)).drew.cell? ⟨wr.heap.size,0 + j,none⟩ = some (.int .i64 (ofs r b f j)):=fun j hj => by
    rw [Nat.zero_add]
    match j,hj with
    | 0,_ => exact hRO.cell (i:=0) (show 0 < 4 by decide)
    | 1,_ => exact hRO.cell (i:=1) (show 1 < 4 by decide)
    | 2,_ => exact hRO.cell (i:=2) (show 2 < 4 by decide)
    | 3,_ => exact hRO.cell (i:=3) (show 3 < 4 by decide)
   have hltO:wr.heap.size < (wr.alloc (.cells #[.int .i64 0,.int .i64 r,.int .i64 (r + b),.int .i64 (r + b + f)] 3)).drew.heap.size:=hRO.lt
   go_wp2_with fail
   clear hRO s1 s2
   generalize (wr.alloc (.cells #[.int .i64 0,.int .i64 r,.int .i64 (r + b),.int .i64 (r + b + f)] 3)).drew = W2 at hKO hcell hltO ⊢
   obtain ⟨po,hpo⟩:∃ p,p = wr.heap.size:=⟨_,rfl⟩
   rw [← hpo] at hcell hltO ⊢
   have HCO:Hid (∀ V,Kept W2 V→(∀ j,j < 4→V.cell? ⟨po,0 + j,none⟩ = some (.int .i64 (ofs r b f j)))∧V.cell? ⟨p1,2,none⟩ = some (.slice (some ⟨bb,off,none⟩) 5 c')∧V.cell? ⟨bb,off,none⟩ = some (.int .i64 d)∧V.cell? ⟨bb,off + 4,none⟩ = some (.int .i64 P)∧Kept w V):=fun V hV => ⟨fun j hj => (Below.cell hV (p:=⟨po,0 + j,none⟩) hltO).trans (hcell j hj),(HR1.out.kept (hKO.trans hV)).c2,(Below.cell (hKO.trans hV) (p:=⟨bb,off,none⟩) HBB.out).trans v0,(Below.cell (hKO.trans hV) (p:=⟨bb,off + 4,none⟩) HBB.out).trans v4,HK1.out.trans (hKO.trans hV)⟩
   clear hKO hcell hltO hpo v0 v1 v2 v3 v4 q0 q1 q2
   go_loopw [6,9] (fun vb vi wr' => ∃ j:Nat,j≤4∧vb = .int .i64 (mnx d r b f P t j)∧vi = .int .i64 (j:Int)∧Hid (Kept W2 wr')) (fun _ vi _ => 4 - (intOf vi).toNat)
   case atStart => exact ⟨0,by omega,rfl,rfl,Kept.refl W2⟩
   case round =>
    obtain ⟨j,hj,rfl,rfl,I⟩:=hrel
    obtain ⟨pp,p2,p3,p4,p5⟩:=HCO.out _ I.out
    by_cases hlt:j < 4
    ·
     have hltz:(j:Int) < 4:=by omega
     have c0:=pp j hlt
     rw [Nat.zero_add] at c0
     have ho:=ofs_bd HP.out hlt
     have HM:Hid (mnx d r b f P t (j + 1) = min (mnx d r b f P t j) (nxo d P t (ofs r b f j))):=mnx_succ hlt
     have hp0:=HP.out.p0
     have hp1:=HP.out.p1
     have hd0:=HP.out.d0
     have hd1:=HP.out.d1
     clear pp p5
     generalize ofs r b f j = o at *
     generalize mnx d r b f P t j = z at *
     have e1:IntKind.i64.wrap (d + o) = d + o:=by rw [IntKind.wrap_i64]; omega
     go_upto_region 16 with fail
     go_quiet (fail)
     by_cases hc:d + o≤t
     ·
      have hq:=nxo_bd hp0 hp1 hd0 hd1 ho.1 ho.2 f1 hc
      have HX:Hid (nxo d P t o = d + o + ((t - (d + o)) / P + 1) * P):=by show _ = _; unfold nxo; rw [if_pos hc]
      have e2:IntKind.i64.wrap (t - (d + o)) = t - (d + o):=by rw [IntKind.wrap_i64]; omega
      have e3:Int.tdiv (t - (d + o)) P = (t - (d + o)) / P:=by rw [Int.tdiv_eq_ediv_of_nonneg (by omega)]
      have e8:0≤t - (d + o):=by omega
      have e9:¬ P = 0:=by omega
      have e10:(P == 0) = false:=by simpa using e9
      obtain ⟨qq,hqq⟩:∃ q,q = (t - (d + o)) / P:=⟨_,rfl⟩
      rw [← hqq] at hq HX e3
      have hqq':=hqq.symm
      clear hqq
      have e4:IntKind.i64.wrap qq = qq:=by rw [IntKind.wrap_i64]; omega
      have e5:IntKind.i64.wrap (qq + 1) = qq + 1:=by rw [IntKind.wrap_i64]; omega
      have e6:IntKind.i64.wrap ((qq + 1) * P) = (qq + 1) * P:=by rw [IntKind.wrap_i64]; omega
      have e7:IntKind.i64.wrap (d + o + (qq + 1) * P) = d + o + (qq + 1) * P:=by rw [IntKind.wrap_i64]; omega
      go_upto_region 18 with fail
      go_quiet (fail)
      go_wp2_with fail
      go_roundw
      case rel => exact ⟨j + 1,by omega,by rw [HM.out,HX.out],by go_num,I.out.drewN _⟩
      case measure => show 4 - ((j:Int) + 1).toNat < 4 - (j:Int).toNat; omega
     ·
      have HX:Hid (nxo d P t o = d + o):=by show _ = _; unfold nxo; rw [if_neg hc]
      go_wp2_with fail
      go_roundw
      case rel => exact ⟨j + 1,by omega,by rw [HM.out,HX.out],by go_num,I.out.drewN _⟩
      case measure => show 4 - ((j:Int) + 1).toNat < 4 - (j:Int).toNat; omega
    ·
     obtain rfl:j = 4:=by omega
     rw [show mnx d r b f P t 4 = min (min (min (min 1000000001 (nxo d P t 0)) (nxo d P t r)) (nxo d P t (r + b))) (nxo d P t (r + b + f)) from rfl]
     generalize min (min (min (min 1000000001 (nxo d P t 0)) (nxo d P t r)) (nxo d P t (r + b))) (nxo d P t (r + b + f)) = z at *
     have HKE:=hid' p5
     clear pp p2 p3 p4 p5
     by_cases hl:1000000000 < z
     ·
      rw [if_pos hl] at HN
      go_wp2_with fail
      all_goals
       go_ret2
       exact ⟨HKE.out,by rw [HN.out]; rfl⟩
     ·
      rw [if_neg hl] at HN
      go_wp2_with fail
      all_goals
       go_ret2
       exact ⟨HKE.out,by rw [HN.out]; rfl⟩
 ·
  have ho:okW k vs ss = false:=by simpa using ho
  rw [ho]
  have HN:Hid (nextW k vs ss t = (0,false)):=by show _ = _; unfold nextW; rw [if_neg (by simp [ho])]
  go_wp2_with fail
  all_goals
   go_ret2
   exact ⟨HK1.out,by rw [HN.out]; rfl⟩
end V
end Go.Proofs.YtgofinhnlcbafaaGreat

namespace Go.Proofs.YtgofinhnlcbafaaGreat
open Go.RowKit
namespace V
open Q (hid' Row3 Row2 okN)
structure LentR (B:Nat) (w:World) (g1 cap1 g2 cap2 n m:Nat) (vs:List (Int × Int)) (ss:List Int) (f1 f2:Nat→Value):Prop where
 b1:B≤g1
 b2:B≤g2
 ne:¬ g1 = g2
 c1:n + 1≤cap1
 c2:m + 1≤cap2
 n1:n = vs.length
 n2:m = ss.length
 r1:w.rowIs g1 39 (cap1 * 2) f1
 r2:w.rowIs g2 3 cap2 f2
 v1:∀ j,j < n→f1 (j * 2) = .int .i64 (vs.getD j (0,0)).1∧f1 (j * 2 + 1) = .int .i64 (vs.getD j (0,0)).2
 v2:∀ j,j < m→f2 j = .int .i64 (ss.getD j 0)
 m1:f1 (n * 2) = .int .i64 77∧f1 (n * 2 + 1) = .int .i64 0
 m2:f2 m = .int .i64 (-77)
def LentIs (B:Nat) (w:World) (e:Ending) (k:Int) (n m:Nat) (vs:List (Int × Int)) (ss:List Int):Prop :=
 ∃ g1 cap1 g2 cap2 f1 f2,e = .returned (.agg #[.int .i64 k,.slice (some ⟨g1,0,none⟩) n cap1,.slice (some ⟨g2,0,none⟩) m cap2])∧LentR B w g1 cap1 g2 cap2 n m vs ss f1 f2
theorem LentR.nsl {B:Nat} {w:World} {g1 cap1 g2 cap2 n m:Nat} {vs:List (Int × Int)} {ss:List Int} {f1 f2:Nat→Value} (h:LentR B w g1 cap1 g2 cap2 n m vs ss f1 f2):NSl w (.slice (some ⟨g1,0,none⟩) n cap1) vs :=
 ⟨_,cap1,by rw [h.n1],fun h0 => ⟨g1,0,rfl,h.r1.lt,fun j hj => by
  have hc:=h.c1
  have hn:=h.n1
  rw [Nat.zero_add]
  exact ⟨(h.r1.cell (i:=j * 2) (by omega)).trans (by rw [(h.v1 j (by omega)).1]),(h.r1.cell (i:=j * 2 + 1) (by omega)).trans (by rw [(h.v1 j (by omega)).2])⟩⟩⟩
theorem LentR.isl {B:Nat} {w:World} {g1 cap1 g2 cap2 n m:Nat} {vs:List (Int × Int)} {ss:List Int} {f1 f2:Nat→Value} (h:LentR B w g1 cap1 g2 cap2 n m vs ss f1 f2):ISl w (.slice (some ⟨g2,0,none⟩) m cap2) ss :=
 ⟨_,cap2,by rw [h.n2],fun h0 => ⟨g2,0,rfl,h.r2.lt,fun j hj => by
  have hc:=h.c2
  have hn:=h.n2
  rw [Nat.zero_add]
  exact (h.r2.cell (i:=j) (by omega)).trans (by rw [h.v2 j (by omega)])⟩⟩
theorem LentR.kept {B:Nat} {w w':World} {g1 cap1 g2 cap2 n m:Nat} {vs:List (Int × Int)} {ss:List Int} {f1 f2:Nat→Value} (h:LentR B w g1 cap1 g2 cap2 n m vs ss f1 f2) (k:Kept w w'):LentR B w' g1 cap1 g2 cap2 n m vs ss f1 f2 :=
 ⟨h.b1,h.b2,h.ne,h.c1,h.c2,h.n1,h.n2,h.r1.of_block (k.block g1 h.r1.lt),h.r2.of_block (k.block g2 h.r2.lt),h.v1,h.v2,h.m1,h.m2⟩
end V
end Go.Proofs.YtgofinhnlcbafaaGreat

namespace Go.Proofs.YtgofinhnlcbafaaGreat
open Go.RowKit
namespace V
open Q (hid' Row3 Row2 okN)
section
variable {P:Program} {ops:Array Oper} {Q:Exit→Act→World→Prop} {md:Region.Mode} {S:World→Prop} {z:Nat}
def anyZ (P:Program) (md:Region.Mode) (ops:Array Oper) (Q:Exit→Act→World→Prop) (S:World→Prop) (z:Nat):Nat→Array Bool→Act→World→Prop
 | 0,ls,a,w => Region.ready md ops ls = []∧Q .normal a w
 | f + 1,ls,a,w => (Region.ready md ops ls = []→Q .normal a w)∧∀ i ∈ Region.ready md ops ls,wpOp P ops Q i (fun a' w' => (i ≠ z→S w')∧anyZ P md ops Q S z f (ls.setIfInBounds i true) a' w') a w
theorem any_of_z:∀ (f:Nat) (ls:Array Bool) (a:Act) (w:World),anyZ P md ops Q S z f ls a w→wpAny P md ops Q f ls a w
 | 0,_,_,_,h => h
 | f + 1,_,_,_,h => ⟨h.1,fun i hi => wpOp_mono (fun a' w' h' => any_of_z f _ a' w' h'.2) (h.2 i hi)⟩
def zwait (md:Region.Mode) (ops:Array Oper) (z i:Nat):Bool :=
 match ops[z]? with
 | some o => o.after.any (fun e => Region.binds md e && e.on == i)
 | none => false
theorem not_listed {i:Nat} {ls:Array Bool} (h:ls.getD i true = false):ls.getD i false = false:=by
 rcases Nat.lt_or_ge i ls.size with h' | h'
 ·
  simp [h'] at h ⊢; exact h
 ·
  simp [Array.getElem?_eq_none h'] at h
theorem zwait_not {i:Nat} {ls:Array Bool} (h:zwait md ops z i = true) (hun:ls.getD i true = false):¬ z ∈ Region.ready md ops ls:=by
 intro hz
 obtain ⟨_,o,ho,hall⟩:=mem_ready.1 hz
 simp only [zwait,ho] at h
 obtain ⟨e,he,hb⟩:=Array.any_eq_true'.1 h
 simp only [Bool.and_eq_true,beq_iff_eq] at hb
 have:=hall e he hb.1
 rw [hb.2,not_listed hun] at this
 cases this
theorem anyZ_first {i:Nat} {oi:Oper} {v:Value} (hi:ops[i]? = some oi) (hs:Region.noSelect ops = true) (hw:zwait md ops z i = true)
  (hQ:∀ c a w,Q (.panic c) (a.put oi.dst v) w→Q (.panic c) a w):∀ (f:Nat) (ls:Array Bool) (a:Act) (w:World),
   (∀ j oj,ops[j]? = some oj→j ≠ i→ls.getD j true = false→(∀ e ∈ oj.after,Region.binds md e = true→e.on ≠ i)→oi.apart ops oj = true) →
   i ∈ Region.ready md ops ls→YieldsIf P ops S oi v a→S w →
   anyZ P md ops Q S z f (ls.setIfInBounds i true) (a.put oi.dst v) w→anyZ P md ops Q S z (f + 1) ls a w:=by
 intro f
 induction f with
 | zero =>
  intro ls a w _ hr hy hS H
  refine ⟨fun h => absurd hr (by rw [h]; simp),fun j hj => ?_⟩
  by_cases hji:j = i
  ·
   subst hji
   exact hy.wpOp hi hS ⟨fun _ => hS,H⟩
  ·
   exact absurd (ready_mono hj hji) (by rw [H.1]; simp)
 | succ f ih =>
  intro ls a w hfree hr hy hS H
  have hun:=(mem_ready.1 hr).1
  refine ⟨fun h => absurd hr (by rw [h]; simp),fun j hj => ?_⟩
  by_cases hji:j = i
  ·
   subst hji
   exact hy.wpOp hi hS ⟨fun _ => hS,H⟩
  have hjz:j ≠ z:=fun e => zwait_not hw hun (e ▸ hj)
  obtain ⟨hjun,oj,hoj,hall⟩:=mem_ready.1 hj
  have hap:=hfree j oj hoj hji hjun (fun e he hb heq => by
   have h1:=hall e he hb
   rw [heq,not_listed hun] at h1
   cases h1)
  refine wpOp_mono (fun a' w' h3 => ⟨fun _ => h3.2.1 hjz,ih _ a' w' (fun k ok hk hki hku hno => hfree k ok hk hki ?_ hno) (ready_mono hr (Ne.symm hji)) h3.1 (h3.2.1 hjz) ?_⟩) (wpOp_putIf hoj hap (fun cs b => Region.noSelect_spec hs i oi cs b hi) (fun cs b => Region.noSelect_spec hs j oj cs b hoj) hQ hy (H.2 j (ready_mono hj hji)))
  ·
   by_cases hjk:j = k
   ·
    subst hjk; exact hjun
   ·
    rw [getD_set_ne true hjk] at hku; exact hku
  ·
   rw [Array.setIfInBounds_comm _ _ hji]
   exact h3.2.2
theorem anyZ_take {i:Nat} {oi:Oper} {v:Value} {f:Nat} {ls:Array Bool} {a:Act} {w:World} (hi:ops[i]? = some oi)
  (hs:Region.noSelect ops = true) (hf:Region.free md ops ls i = true) (hr:(Region.ready md ops ls).contains i = true) (hw:zwait md ops z i = true)
  (hQ:∀ c a w,Q (.panic c) (a.put oi.dst v) w→Q (.panic c) a w) (hy:YieldsIf P ops S oi v a) (hS:S w)
  (h:anyZ P md ops Q S z f (ls.setIfInBounds i true) (a.put oi.dst v) w):anyZ P md ops Q S z (f + 1) ls a w :=
 anyZ_first hi hs hw hQ f ls a w (Region.free_spec hi hf) (by simpa using hr) hy hS h
def AllZ (P:Program) (md:Region.Mode) (ops:Array Oper) (Q:Exit→Act→World→Prop) (S:World→Prop) (z f:Nat) (ls:Array Bool) (a:Act) (w:World) (rs:List Nat):Prop :=
 ∀ i ∈ rs,wpOp P ops Q i (fun a' w' => (i ≠ z→S w')∧anyZ P md ops Q S z f (ls.setIfInBounds i true) a' w') a w
theorem AllZ.nil {f:Nat} {ls:Array Bool} {a:Act} {w:World}:AllZ P md ops Q S z f ls a w []:=fun _ h => by cases h
theorem AllZ.cons {f:Nat} {ls:Array Bool} {a:Act} {w:World} {i:Nat} {o:Oper} {rs:List Nat} (ho:ops[i]? = some o)
  (h:∀ K':Act→World→Prop,Shut (∀ a w,S w→(S w→anyZ P md ops Q S z f (ls.setIfInBounds i true) a w)→K' a w)→if Region.wanted o (yielded ops a.tmps) = true then Oper.wp P o a w K' Q else K' (a.put o.dst undef) w)
  (hs:AllZ P md ops Q S z f ls a w rs):AllZ P md ops Q S z f ls a w (i :: rs):=fun j hj => by
 rcases List.mem_cons.1 hj with rfl | hj
 ·
  exact wpOp_step ho (fun K' hK => h K' (fun a w hS hW => hK a w ⟨fun _ => hS,hW hS⟩))
 ·
  exact hs j hj
theorem AllZ.last {f:Nat} {ls:Array Bool} {a:Act} {w:World} {o:Oper} (ho:ops[z]? = some o)
  (h:∀ K':Act→World→Prop,Shut (∀ a w,anyZ P md ops Q S z f (ls.setIfInBounds z true) a w→K' a w)→if Region.wanted o (yielded ops a.tmps) = true then Oper.wp P o a w K' Q else K' (a.put o.dst undef) w) :
  AllZ P md ops Q S z f ls a w [z]:=fun j hj => by
 rw [List.mem_singleton] at hj
 subst hj
 exact wpOp_step ho (fun K' hK => h K' (fun a w hW => hK a w ⟨fun e => absurd rfl e,hW⟩))
theorem anyZ_ready {rs:List Nat} {f:Nat} {ls:Array Bool} {a:Act} {w:World} (hr:Region.ready md ops ls = rs) (hne:rs ≠ []) (h:AllZ P md ops Q S z f ls a w rs):anyZ P md ops Q S z (f + 1) ls a w :=
 ⟨fun h0 => absurd (hr ▸ h0) hne,hr ▸ h⟩
theorem anyZ_done {ls:Array Bool} {a:Act} {w:World} (hr:Region.ready md ops ls = []) (h:Q .normal a w):∀ f,anyZ P md ops Q S z f ls a w
 | 0 => ⟨hr,h⟩
 | _ + 1 => ⟨fun _ => h,by rw [hr]; simp⟩
theorem region_z (z:Nat) {id:Nat} {a:Act} {w:World} (hm:P.follows .mixedOrders = true) (hS:S w.drew)
  (h:S w.drew→anyZ P .any ops Q S z ops.size (Array.replicate ops.size false) a w.drew):(Code.region id ops true).wp P Q a w :=
 wp_region_any hm (any_of_z _ _ _ _ (h hS))
theorem step_src {w:World} {o:Oper} {a:Act} {K:Act→World→Prop} {E:Prop} (hgd:o.guard = none) (s x:Operand) (t:TypeId)
  (ho:o.op = .call { callee:=.builtin .append,args:=#[s,x],argTypes:=#[t,t] })
  (base:Nat) (e:TypeId) (i:TypeInfo) (zv:Value) (size bytes:Nat) (ht:P.underlying t = some (.slice e)) (hi:P.info? e = some i) (hz:i.zero = some zv)
  (hsize:i.size = size) (hby:i.bytes = bytes) (hzs:zv.cells.size = size) (hsz:0 < size)
  (g0:Nat) (hs:a.eval s = .slice (some ⟨g0,0,none⟩) 0 0) (hown:w.ownsRow base e size (.slice (some ⟨g0,0,none⟩) 0 0) 0 [])
  (ao:Option Addr) (m c:Nat) (news:List Value) (hx:a.eval x = .slice ao m c) (hl:news.length = m * size) (hnews:0 < m→∃ ad,ao = some ad∧∀ j u,news[j]? = some u→w.cell? (ad.add j) = some u) (h1:∀ u ∈ news,u.oneCell' = true)
  (h63:m≤maxLen) (hbytes:m * bytes≤140737488355328) (hbase:base≤w.heap.size)
  (h:∀ g cap w',w'.ownsRow base e size (.slice (some ⟨g,0,none⟩) m cap) m news→w.grownBy w' (some g0)→K (a.put o.dst (.slice (some ⟨g,0,none⟩) m cap)) w') :
  if Region.wanted o (yielded ops a.tmps) = true then Oper.wp P o a w K Q else E:=by
 by_cases hm:0 < m
 ·
  obtain ⟨ad,rfl,hn⟩:=hnews hm
  exact step_append_lies w hgd s x t ho base e i zv size bytes ht hi hz hsize hby hzs hsz _ 0 [] hs hown ad m c news hx hl hn h1 hm (by omega) (by rw [Nat.zero_add]; exact hbytes) hbase _ rfl (fun g cap w' h2 h3 _ _ => by
   have:=h g cap w' (by simpa using h2) h3
   rw [Nat.zero_add]
   exact this)
 ·
  obtain rfl:m = 0:=by omega
  have hn0:news = []:=List.eq_nil_of_length_eq_zero (by simpa using hl)
  subst hn0
  have hr:(Builtin.append_ #[t,t] o.type #[.slice (some ⟨g0,0,none⟩) 0 0,.slice ao 0 c]).run P w = .ok (.slice (some ⟨g0,0,none⟩) 0 0) w:=by
   cases ao <;> simp [Builtin.append_,run_underlying ht,sizeOf,typeInfo,hi,Builtin.lenOf,Builtin.firstCells,loadCells,loadCellsFrom,storeCells]
  have hw:Region.wanted o (yielded ops a.tmps) = true:=by simp [Region.wanted,hgd]
  rw [if_pos hw]
  unfold Oper.wp execOp
  simp only [ho,resolve,invoke,builtin,Sem.run_bind,Sem.run_pure,Result.andThen_ok,List.map_toArray,List.map_cons,List.map_nil,hs,hx,hr]
  exact h g0 0 w hown ⟨rfl,rfl,rfl,Nat.le_refl _,fun _ _ _ => rfl⟩
end
theorem own_nil (t:TypeId) (sz:Nat) (w:World) (B:Nat) (hB:B≤w.heap.size):(w.alloc (Obj.cells #[] t)).ownsRow B t sz (.slice (some ⟨w.heap.size,0,none⟩) 0 0) 0 []:=by
 refine ⟨by simp,.inr ⟨w.heap.size,0,#[],rfl,hB,?_,Nat.le_refl _,by unfold maxLen; omega,by simp,by simp⟩⟩
 show (w.heap.push _)[w.heap.size]? = _
 simp
theorem row_of_owns {w:World} {B:Nat} {t:TypeId} {sz g n cap:Nat} {xs:List Value} (h:w.ownsRow B t sz (.slice (some ⟨g,0,none⟩) n cap) n xs) :
  B≤g∧n≤cap∧∃ f:Nat→Value,w.rowIs g t (cap * sz) f∧∀ i v,xs[i]? = some v→f i = v:=by
 obtain ⟨h1,⟨h2,_⟩ | ⟨g',cap',cur,he,hB,hg,hn,_,hs,ht⟩⟩:=h
 ·
  cases h2
 ·
  simp only [Value.slice.injEq,Option.some.injEq,Addr.mk.injEq,and_true] at he
  obtain ⟨rfl,_,rfl⟩:=he
  refine ⟨hB,hn,fun j => (cur[j]?).getD undef,⟨cur,hg,hs,fun i hi => ?_⟩,fun i v hv => ?_⟩
  ·
   have hi':i < cur.size:=by omega
   simp [hi']
  ·
   have hl:=(List.getElem?_eq_some_iff.1 hv).1
   rw [← ht,List.getElem?_take_of_lt (by omega),Array.getElem?_toList] at hv
   show (cur[i]?).getD undef = _
   rw [hv]; rfl
theorem kept_grown {W w w':World} {g:Nat} (k:Kept W w) (hg:w.grownBy w' (some g)) (h:W.heap.size≤g):Kept W w' :=
 Below.grown k hg k.size (fun j hj => by simp only [Option.some.injEq] at hj; omega)
end V
end Go.Proofs.YtgofinhnlcbafaaGreat

namespace Go.Proofs.YtgofinhnlcbafaaGreat
open Go.RowKit
namespace V
open Q (hid' Row3 Row2 okN)
theorem addB (a:Addr) (n:Nat):(a.add n).block = a.block:=by unfold Addr.add; split <;> rfl
theorem info_num:(Tryz.prog.info? 39).map (fun i => (i.zero,i.size,i.bytes)) = some (some (.agg #[.int .i64 0,.int .i64 0]),2,16):=by kernel_rfl
theorem info_int:(Tryz.prog.info? 3).map (fun i => (i.zero,i.size,i.bytes)) = some (some (.int .i64 0),1,8):=by kernel_rfl
theorem und_nums:Tryz.prog.underlying 22 = some (.slice 39):=by kernel_rfl
theorem und_ints:Tryz.prog.underlying 23 = some (.slice 3):=by kernel_rfl
def nums (vs:List (Int × Int)):List Value:=vs.flatMap fun p => [.int .i64 p.1,.int .i64 p.2]
def ints (ss:List Int):List Value:=ss.map fun x => .int .i64 x
theorem nums_len (vs:List (Int × Int)):(nums vs).length = vs.length * 2:=by
 induction vs with
 | nil => rfl
 | cons p vs ih => simp only [nums,List.flatMap_cons,List.length_append,List.length_cons,List.length_nil] at ih ⊢; omega
theorem ints_len (ss:List Int):(ints ss).length = ss.length * 1:=by simp [ints]
theorem nums_one (vs:List (Int × Int)):∀ u ∈ nums vs,u.oneCell' = true:=by
 intro u hu
 simp only [nums,List.mem_flatMap] at hu
 obtain ⟨p,_,hp⟩:=hu
 simp at hp
 rcases hp with rfl | rfl <;> rfl
theorem ints_one (ss:List Int):∀ u ∈ ints ss,u.oneCell' = true:=by
 intro u hu
 simp only [ints,List.mem_map] at hu
 obtain ⟨p,_,rfl⟩:=hu
 rfl
theorem nums_get (vs:List (Int × Int)):∀ j,j < vs.length→(nums vs)[j * 2]? = some (.int .i64 (vs.getD j (0,0)).1)∧(nums vs)[j * 2 + 1]? = some (.int .i64 (vs.getD j (0,0)).2):=by
 induction vs with
 | nil => intro j hj; cases hj
 | cons p vs ih =>
  intro j hj
  cases j with
  | zero => exact ⟨rfl,rfl⟩
  | succ j =>
   have:=ih j (by simpa using hj)
   rw [show (j + 1) * 2 = j * 2 + 1 + 1 by omega]
   exact this
theorem ints_get (ss:List Int) (j:Nat) (hj:j < ss.length):(ints ss)[j]? = some (.int .i64 (ss.getD j 0)):=by
 simp [ints,hj]
theorem NSl.src {w:World} {ao:Option Addr} {n c:Nat} {vs:List (Int × Int)} (h:NSl w (.slice ao n c) vs):n = vs.length∧(0 < n→∃ ad:Addr,ao = some ad∧ad.block < w.heap.size∧∀ j u,(nums vs)[j]? = some u→w.cell? (ad.add j) = some u):=by
 obtain ⟨ao',cap,he,hx⟩:=h
 simp only [Value.slice.injEq] at he
 obtain ⟨rfl,rfl,rfl⟩:=he
 refine ⟨rfl,fun h0 => ?_⟩
 obtain ⟨b,off,rfl,hb,hc⟩:=hx h0
 refine ⟨_,rfl,hb,fun j u hu => ?_⟩
 have hj:=(List.getElem?_eq_some_iff.1 hu).1
 rw [nums_len] at hj
 rw [Addr.add_lit]
 have hd:j / 2 < vs.length:=by omega
 have hg:=nums_get vs (j / 2) hd
 rcases Nat.mod_two_eq_zero_or_one j with e | e
 ·
  have hjj:j / 2 * 2 = j:=by omega
  rw [hjj] at hg
  have h2:=(hc (j / 2) hd).1
  rw [hjj] at h2
  rw [h2,← hg.1,hu]
 ·
  have hjj:j / 2 * 2 + 1 = j:=by omega
  rw [hjj] at hg
  have h2:=(hc (j / 2) hd).2
  rw [Nat.add_assoc,hjj] at h2
  rw [h2,← hg.2,hu]
theorem ISl.src {w:World} {ao:Option Addr} {n c:Nat} {ss:List Int} (h:ISl w (.slice ao n c) ss):n = ss.length∧(0 < n→∃ ad:Addr,ao = some ad∧ad.block < w.heap.size∧∀ j u,(ints ss)[j]? = some u→w.cell? (ad.add j) = some u):=by
 obtain ⟨ao',cap,he,hx⟩:=h
 simp only [Value.slice.injEq] at he
 obtain ⟨rfl,rfl,rfl⟩:=he
 refine ⟨rfl,fun h0 => ?_⟩
 obtain ⟨b,off,rfl,hb,hc⟩:=hx h0
 refine ⟨_,rfl,hb,fun j u hu => ?_⟩
 have hj:=(List.getElem?_eq_some_iff.1 hu).1
 rw [ints_len] at hj
 rw [Addr.add_lit]
 rw [hc j (by omega),← ints_get ss j (by omega),hu]
theorem mark2 (t:TypeId) (w:World) (x y:Value):∀ j u,([x,y]:List Value)[j]? = some u→(w.alloc (.cells #[x,y] t)).cell? ((⟨w.heap.size,0,none⟩:Addr).add j) = some u:=by
 intro j u hj
 match j,hj with
 | 0,hj => simp at hj; subst hj; simp [Addr.add]
 | 1,hj => simp at hj; subst hj; simp [Addr.add]
theorem marks_kept {w w':World} {b:Nat} {l:List Value} (h:∀ j u,l[j]? = some u→w.cell? ((⟨b,0,none⟩:Addr).add j) = some u) (k:w'.heap[b]? = w.heap[b]?):∀ j u,l[j]? = some u→w'.cell? ((⟨b,0,none⟩:Addr).add j) = some u :=
 fun j u hu => (World.cell?_of_block (a:=(⟨b,0,none⟩:Addr).add j) (by rw [addB]; exact k)).trans (h j u hu)
structure Half (w W wc:World) (p q:Nat) (k:Int) (x1 x2:Value) (g:Nat) (t:TypeId) (sz n cap:Nat) (xs:List Value) (f:Nat→Value):Prop where
 kp:Kept w wc
 szw:W.heap.size≤wc.heap.size
 oth:∀ b,b < W.heap.size→¬ b = p→wc.heap[b]? = W.heap[b]?
 rp:Row3 25 wc p (.int .i64 k) x1 x2
 rq:Row3 25 wc q (.int .i64 0) (.slice none 0 0) (.slice none 0 0)
 gb:W.heap.size≤g
 gc:n + 1≤cap
 r:wc.rowIs g t (cap * sz) f
 v:∀ i u,xs[i]? = some u→f i = u
theorem mark1 (t:TypeId) (w:World) (x:Value):∀ j u,([x]:List Value)[j]? = some u→(w.alloc (.cells #[x] t)).cell? ((⟨w.heap.size,0,none⟩:Addr).add j) = some u:=by
 intro j u hj
 match j,hj with
 | 0,hj => simp at hj; subst hj; simp [Addr.add]
theorem heap_alloc_lt' (w:World) (o:Obj) (b:Nat) (h:b < w.heap.size):(w.alloc o).heap[b]? = w.heap[b]?:=by
 show (w.heap.push _)[b]? = _
 rw [Array.getElem?_push_lt h]; simp [h]
theorem half_of1 {w W V:World} {p q:Nat} {k:Int} {x1 x2:Value} {g:Nat} {t:TypeId} {sz n cap:Nat} {xs:List Value} {f:Nat→Value}
  (h:Kept w W∧w.heap.size≤p∧p < W.heap.size∧¬ q = p∧Row3 25 W q (.int .i64 0) (.slice none 0 0) (.slice none 0 0)) (hp:Row3 25 V p (.int .i64 k) x1 x2) (K:Kept W V) (gb:W.heap.size≤g) (gc:n + 1≤cap) (gr:V.rowIs g t (cap * sz) f) (gv:∀ i u,xs[i]? = some u→f i = u) :
  Half w W (V.setCell ⟨p,1,none⟩ (.slice (some ⟨g,0,none⟩) n cap)) p q k (.slice (some ⟨g,0,none⟩) n cap) x2 g t sz n cap xs f :=
 ⟨(h.1.trans K).setCell (p:=⟨p,1,none⟩) h.2.1 _,by simpa using K.size,fun b hb hne => (Deep.blk_setCell_other _ _ _ _ hne).trans (K.block b hb),(World.rowIs.set hp 1 _).congr (fun i hi => by
  rcases (show i = 0 ∨ i = 1 ∨ i = 2 by omega) with rfl | rfl | rfl <;> rfl),World.rowIs.setOther (h.2.2.2.2.kept K) h.2.2.2.1 _,gb,gc,World.rowIs.setOther gr (show ¬ g = p by have:=h.2.2.1; omega) _,gv⟩
theorem half_of2 {w W V:World} {p q:Nat} {k:Int} {x1 x2:Value} {g:Nat} {t:TypeId} {sz n cap:Nat} {xs:List Value} {f:Nat→Value}
  (h:Kept w W∧w.heap.size≤p∧p < W.heap.size∧¬ q = p∧Row3 25 W q (.int .i64 0) (.slice none 0 0) (.slice none 0 0)) (hp:Row3 25 V p (.int .i64 k) x1 x2) (K:Kept W V) (gb:W.heap.size≤g) (gc:n + 1≤cap) (gr:V.rowIs g t (cap * sz) f) (gv:∀ i u,xs[i]? = some u→f i = u) :
  Half w W (V.setCell ⟨p,2,none⟩ (.slice (some ⟨g,0,none⟩) n cap)) p q k x1 (.slice (some ⟨g,0,none⟩) n cap) g t sz n cap xs f :=
 ⟨(h.1.trans K).setCell (p:=⟨p,2,none⟩) h.2.1 _,by simpa using K.size,fun b hb hne => (Deep.blk_setCell_other _ _ _ _ hne).trans (K.block b hb),(World.rowIs.set hp 2 _).congr (fun i hi => by
  rcases (show i = 0 ∨ i = 1 ∨ i = 2 by omega) with rfl | rfl | rfl <;> rfl),World.rowIs.setOther (h.2.2.2.2.kept K) h.2.2.2.1 _,gb,gc,World.rowIs.setOther gr (show ¬ g = p by have:=h.2.2.1; omega) _,gv⟩
theorem lent_end {w wb wd:World} {p q:Nat} {k:Int} {y1 y2:Value} {g1 cap1 g2 cap2 n m:Nat} {vs:List (Int × Int)} {ss:List Int} {f1 f2:Nat→Value} (hq:w.heap.size≤q) (hn:n = vs.length) (hm:m = ss.length)
  (hP:Row3 25 wb p (.int .i64 k) (.slice (some ⟨g1,0,none⟩) n cap1) y2∧Kept w wb∧w.heap.size≤p∧p < wb.heap.size∧¬ q = p∧Row3 25 wb q (.int .i64 0) (.slice none 0 0) (.slice none 0 0))
  (hG:w.heap.size≤g1∧¬ g1 = q∧n + 1≤cap1∧wb.rowIs g1 39 (cap1 * 2) f1∧∀ i u,(nums vs ++ [.int .i64 77,.int .i64 0])[i]? = some u→f1 i = u) (hgp:¬ g1 = p)
  (h:Half w wb wd p q k (.slice (some ⟨g1,0,none⟩) n cap1) y1 g2 3 1 m cap2 (ints ss ++ [.int .i64 (-77)]) f2) (x0 x1 x2:Value) :
  Kept w (((wd.setCell ⟨q,0,none⟩ x0).setCell ⟨q,1,none⟩ x1).setCell ⟨q,2,none⟩ x2)∧LentR w.heap.size (((wd.setCell ⟨q,0,none⟩ x0).setCell ⟨q,1,none⟩ x1).setCell ⟨q,2,none⟩ x2) g1 cap1 g2 cap2 n m vs ss f1 f2:=by
 have hqb:=hP.2.2.2.2.2.lt
 have g2b:=h.gb
 have hgb:=hG.2.2.2.1.lt
 have g2q:¬ g2 = q:=by omega
 have ks:=hP.2.1.size
 refine ⟨((h.kp.setCell (p:=⟨q,0,none⟩) hq _).setCell (p:=⟨q,1,none⟩) hq _).setCell (p:=⟨q,2,none⟩) hq _,hG.1,by omega,by omega,hG.2.2.1,h.gc,hn,hm,?_,?_,?_,?_,?_,?_⟩
 ·
  exact ((((hG.2.2.2.1.of_block (h.oth g1 hgb hgp)).setOther hG.2.1 _).setOther hG.2.1 _).setOther hG.2.1 _)
 ·
  have:=h.r
  rw [Nat.mul_one] at this
  exact (((this.setOther g2q _).setOther g2q _).setOther g2q _)
 ·
  intro j hj
  have hg:=nums_get vs j (by omega)
  have hl:=nums_len vs
  exact ⟨hG.2.2.2.2 _ _ (by rw [List.getElem?_append_left (by omega)]; exact hg.1),hG.2.2.2.2 _ _ (by rw [List.getElem?_append_left (by omega)]; exact hg.2)⟩
 ·
  intro j hj
  have hl:=ints_len ss
  exact h.v _ _ (by rw [List.getElem?_append_left (by omega)]; exact ints_get ss j (by omega))
 ·
  have hl:=nums_len vs
  exact ⟨hG.2.2.2.2 _ _ (by rw [List.getElem?_append_right (by omega),hl,hn,Nat.sub_self]; rfl),hG.2.2.2.2 _ _ (by rw [List.getElem?_append_right (by omega),hl,hn,Nat.add_sub_cancel_left]; rfl)⟩
 ·
  have hl:=ints_len ss
  exact h.v _ _ (by rw [List.getElem?_append_right (by omega),hl,hm,Nat.mul_one,Nat.sub_self]; rfl)
set_option maxRecDepth 100000 in
set_option maxHeartbeats 4000000 in
theorem lent_any (k:Int) (a1 a2:Option Addr) (n c m c':Nat) (vs:List (Int × Int)) (ss:List Int) (w:World) (h1:NSl w (.slice a1 n c) vs) (h2:ISl w (.slice a2 m c') ss) (hn:(n + 1) * 16≤140737488355328) (hm:(m + 1) * 8≤140737488355328) :
  Calls Tryz.prog 5 #[.agg #[.int .i64 k,.slice a1 n c,.slice a2 m c']] w fun e w' => Kept w w'∧LentIs w.heap.size w' e k n m vs ss:=by
 have HS:=hid' (And.intro h1 h2)
 clear h1 h2
 go_enter Tryz.func5,Tryz.ntmps5
 go_upto_region 1 with fail
 have hK:=((Kept.refl w).alloc (.cells #[.int .i64 k,.slice a1 n c,.slice a2 m c'] 25)).alloc (.cells #[.int .i64 0,.slice none 0 0,.slice none 0 0] 25)
 have hR:=(Row3.alloc 25 w (.int .i64 k) (.slice a1 n c) (.slice a2 m c')).kept ((Kept.refl _).alloc (.cells #[.int .i64 0,.slice none 0 0,.slice none 0 0] 25))
 have hV:=Row3.alloc 25 (w.alloc (.cells #[.int .i64 k,.slice a1 n c,.slice a2 m c'] 25)) (.int .i64 0) (.slice none 0 0) (.slice none 0 0)
 rw [World.size_alloc] at hV
 have hpw:w.heap.size≤w.heap.size:=Nat.le_refl _
 have hqw:w.heap.size≤w.heap.size + 1:=Nat.le_succ _
 have hpq:¬ w.heap.size + 1 = w.heap.size:=by omega
 generalize (w.alloc (.cells #[.int .i64 k,.slice a1 n c,.slice a2 m c'] 25)).alloc (.cells #[.int .i64 0,.slice none 0 0,.slice none 0 0] 25) = W0 at hK hR hV ⊢
 obtain ⟨q,hq⟩:∃ p,p = w.heap.size + 1:=⟨_,rfl⟩
 rw [← hq] at hV hqw hpq ⊢
 obtain ⟨p,hp⟩:∃ p,w.heap.size = p:=⟨_,rfl⟩
 rw [hp] at hR hpq ⊢
 have hpw:w.heap.size≤p:=by omega
 have HP:=hid' (And.intro hR (And.intro hK (And.intro hpw (And.intro hR.lt (And.intro hpq hV)))))
 have HQ:=hid' hqw
 clear hp hq hK hR hV hpw hqw hpq
 have hln:(nums vs).length = n * 2:=by rw [nums_len,← (NSl.src HS.out.1).1]
 have h63:n≤maxLen:=by unfold maxLen; omega
 have h63':n + 1≤maxLen:=by unfold maxLen; omega
 have hsrc:Hid (0 < n→∃ ad:Addr,a1 = some ad∧ad.block < W0.heap.size∧∀ j u,(nums vs)[j]? = some u→W0.cell? (ad.add j) = some u):=(NSl.src (HS.out.1.kept HP.out.2.1)).2
 go_cut [13] (fun s13 wc => ∃ g cap f,s13 = .slice (some ⟨g,0,none⟩) n cap∧Hid (Half w W0 wc p q k (.slice (some ⟨g,0,none⟩) n cap) (.slice a2 m c') g 39 2 n cap (nums vs ++ [.int .i64 77,.int .i64 0]) f))
 case first =>
  obtain ⟨i0,hi,hz0,hz1,hz2⟩:=info_parts info_num
  have sS:=hid' (fun (V:World) (K:Kept W0 V) => And.intro ((HP.out.1.kept K).c0) ((HP.out.1.kept K).c1))
  have KT:Kept W0 W0.drew:=(Kept.refl _).drew
  refine region_z 12 (S:=fun w' => w'.cell? ⟨p,0,none⟩ = some (.int .i64 k)∧w'.cell? ⟨p,1,none⟩ = some (.slice a1 n c)) (by kernel_rfl) (sS.out _ KT) (fun hHeld => ?_)
  generalize W0.drew = Wd at KT hHeld ⊢
  refine anyZ_take (i:=1) (v:=?vxt1) rfl (by kernel_rfl) (by kernel_rfl) (by kernel_rfl) (by kernel_rfl) (fun _ _ _ h => h) (Or.inl ⟨by rfl,?yxt1⟩) hHeld ?rxt1
  case yxt1 =>
   intro w' hSw
   obtain ⟨hSw0,hSw1⟩:=hSw
   go_simp
   with_reducible rfl
  case rxt1 =>
  refine anyZ_take (i:=2) (v:=?vxt2) rfl (by kernel_rfl) (by kernel_rfl) (by kernel_rfl) (by kernel_rfl) (fun _ _ _ h => h) (Or.inl ⟨by rfl,?yxt2⟩) hHeld ?rxt2
  case yxt2 =>
   intro w' hSw
   obtain ⟨hSw0,hSw1⟩:=hSw
   go_simp
   with_reducible rfl
  case rxt2 =>
  refine anyZ_take (i:=4) (v:=?vxt4) rfl (by kernel_rfl) (by kernel_rfl) (by kernel_rfl) (by kernel_rfl) (fun _ _ _ h => h) (Or.inl ⟨by rfl,?yxt4⟩) hHeld ?rxt4
  case yxt4 =>
   intro w' hSw
   obtain ⟨hSw0,hSw1⟩:=hSw
   go_simp
   with_reducible rfl
  case rxt4 =>
  refine anyZ_take (i:=7) (v:=?vxt7) rfl (by kernel_rfl) (by kernel_rfl) (by kernel_rfl) (by kernel_rfl) (fun _ _ _ h => h) (Or.inl ⟨by rfl,?yxt7⟩) hHeld ?rxt7
  case yxt7 =>
   intro w' hSw
   obtain ⟨hSw0,hSw1⟩:=hSw
   go_simp
   with_reducible rfl
  case rxt7 =>
  refine anyZ_take (i:=8) (v:=?vxt8) rfl (by kernel_rfl) (by kernel_rfl) (by kernel_rfl) (by kernel_rfl) (fun _ _ _ h => h) (Or.inl ⟨by rfl,?yxt8⟩) hHeld ?rxt8
  case yxt8 =>
   intro w' hSw
   obtain ⟨hSw0,hSw1⟩:=hSw
   go_simp
   with_reducible rfl
  case rxt8 =>
  refine anyZ_take (i:=9) (v:=?vxt9) rfl (by kernel_rfl) (by kernel_rfl) (by kernel_rfl) (by kernel_rfl) (fun _ _ _ h => h) (Or.inl ⟨by rfl,?yxt9⟩) hHeld ?rxt9
  case yxt9 =>
   intro w' hSw
   obtain ⟨hSw0,hSw1⟩:=hSw
   go_simp
   with_reducible rfl
  case rxt9 =>
  refine anyZ_ready (rs:=[0,5]) (by kernel_rfl) (by simp) ?_
  refine AllZ.cons rfl (fun K hK => ?_) ?_
  ·
   skip
   go_simp
   refine hK.out _ _ (sS.out _ (KT.alloc _)) (fun hHeld => ?_)
   clear hK K
   have own:=own_nil 39 2 Wd W0.heap.size KT.size
   have g0b:W0.heap.size≤Wd.heap.size:=KT.size
   have g0l:Wd.heap.size < (Wd.alloc (.cells #[] 39)).heap.size:=by simp
   have KT:=KT.alloc (.cells #[] 39)
   obtain ⟨g0,hg0⟩:∃ g,g = Wd.heap.size:=⟨_,rfl⟩
   rw [← hg0] at own g0b g0l ⊢
   generalize Wd.alloc (.cells #[] 39) = Wde at own KT hHeld g0l ⊢
   clear hg0
   refine anyZ_ready (rs:=[3,5]) (by kernel_rfl) (by simp) ?_
   refine AllZ.cons rfl (fun K hK => ?_) ?_
   ·
    skip
    refine step_src rfl (.tmp 3) (.tmp 5) 22 rfl W0.heap.size 39 i0 (.agg #[.int .i64 0,.int .i64 0]) 2 16 und_nums hi hz0 hz1 hz2 rfl (by decide) g0 rfl own a1 n c (nums vs) rfl hln (fun h0 => (hsrc.out h0).imp fun ad h => ⟨h.1,fun j u hu => (Below.cell KT (p:=ad.add j) (by rw [addB]; exact h.2.1)).trans (h.2.2 j u hu)⟩) (nums_one vs) h63 (by omega) KT.size ?_
    intro g2 cap2 W2 own2 hg2
    have KT:=kept_grown KT hg2 g0b
    have g2l:=(row_of_owns own2).2.2.elim fun f h => h.1.lt
    refine hK.out _ _ (sS.out _ KT) (fun hHeld => ?_)
    have own:=own2
    clear hK K hg2 own2
    clear g0l
    refine anyZ_ready (rs:=[5]) (by kernel_rfl) (by simp) ?_
    refine AllZ.cons rfl (fun K hK => ?_) AllZ.nil
    go_simp
    refine hK.out _ _ (sS.out _ (KT.alloc _)) (fun hHeld => ?_)
    clear hK K
    have Hm:=mark2 39 W2 (.int .i64 77) (.int .i64 0)
    have lm:W2.heap.size < (W2.alloc (.cells #[.int .i64 77,.int .i64 0] 39)).heap.size:=by simp
    have ne:¬ W2.heap.size = g2:=by omega
    have own:=own.alloc (.cells #[.int .i64 77,.int .i64 0] 39)
    have g2l:g2 < (W2.alloc (.cells #[.int .i64 77,.int .i64 0] 39)).heap.size:=by simp; omega
    have KT:=KT.alloc (.cells #[.int .i64 77,.int .i64 0] 39)
    obtain ⟨bm,hbm⟩:∃ g,g = W2.heap.size:=⟨_,rfl⟩
    rw [← hbm] at Hm lm ne ⊢
    generalize W2.alloc (.cells #[.int .i64 77,.int .i64 0] 39) = W2m at Hm lm KT hHeld own g2l ⊢
    clear hbm
    refine anyZ_ready (rs:=[6]) (by kernel_rfl) (by simp) ?_
    refine AllZ.cons rfl (fun K hK => ?_) AllZ.nil
    refine step_append_lies _ rfl (.tmp 6) (.tmp 8) 22 rfl W0.heap.size 39 i0 (.agg #[.int .i64 0,.int .i64 0]) 2 16 und_nums hi hz0 hz1 hz2 rfl (by decide) (.slice (some ⟨g2,0,none⟩) n cap2) n (nums vs) rfl own ⟨bm,0,none⟩ 1 1 [.int .i64 77,.int .i64 0] rfl rfl Hm (fun u hu => by simp at hu; rcases hu with rfl | rfl <;> rfl) (by omega) h63' (by omega) KT.size _ rfl ?_
    intro g4 cap4 W4 own4 hg4 _ _
    have KT:=kept_grown KT hg4 (row_of_owns own).1
    refine hK.out _ _ (sS.out _ KT) (fun hHeld => ?_)
    clear hK K hg4 own Hm
    obtain ⟨gb,gc,f,gr,gv⟩:=row_of_owns own4
    have gc':n≤cap4:=by omega
    refine anyZ_take (i:=10) (v:=?vx1a) rfl (by kernel_rfl) (by kernel_rfl) (by kernel_rfl) (by kernel_rfl) (fun _ _ _ h => h) (Or.inl ⟨by rfl,?yx1a⟩) hHeld ?rx1a
    case yx1a =>
     intro w' hSw
     obtain ⟨hSw0,hSw1⟩:=hSw
     go_simp
     with_reducible rfl
    case rx1a =>
    refine anyZ_take (i:=11) (v:=?vx1b) rfl (by kernel_rfl) (by kernel_rfl) (by kernel_rfl) (by kernel_rfl) (fun _ _ _ h => h) (Or.inl ⟨by rfl,?yx1b⟩) hHeld ?rx1b
    case yx1b =>
     intro w' hSw
     obtain ⟨hSw0,hSw1⟩:=hSw
     go_simp
     with_reducible rfl
    case rx1b =>
    have hP:=HP.out.1.kept KT
    have hP1:=hP.c1
    have hP2:=hP.fz 1
    refine anyZ_ready (rs:=[12]) (by kernel_rfl) (by simp) ?_
    refine AllZ.last rfl (fun K hK => ?_)
    go_simp
    refine hK.out _ _ ?_
    clear hK K
    refine anyZ_done (by kernel_rfl) ?_ _
    go_wp2_with fail
    go_meet
    case rel => exact ⟨g4,cap4,f,rfl,half_of1 HP.out.2 hP KT gb gc gr gv⟩
   ·
    refine AllZ.cons rfl (fun K hK => ?_) AllZ.nil
    go_simp
    refine hK.out _ _ (sS.out _ (KT.alloc _)) (fun hHeld => ?_)
    clear hK K
    have Hm:=mark2 39 Wde (.int .i64 77) (.int .i64 0)
    have lm:Wde.heap.size < (Wde.alloc (.cells #[.int .i64 77,.int .i64 0] 39)).heap.size:=by simp
    have ne:¬ Wde.heap.size = g0:=by omega
    have own:=own.alloc (.cells #[.int .i64 77,.int .i64 0] 39)
    have g0l:g0 < (Wde.alloc (.cells #[.int .i64 77,.int .i64 0] 39)).heap.size:=by simp; omega
    have KT:=KT.alloc (.cells #[.int .i64 77,.int .i64 0] 39)
    obtain ⟨bm,hbm⟩:∃ g,g = Wde.heap.size:=⟨_,rfl⟩
    rw [← hbm] at Hm lm ne ⊢
    generalize Wde.alloc (.cells #[.int .i64 77,.int .i64 0] 39) = Wdem at Hm lm KT hHeld own g0l ⊢
    clear hbm
    refine anyZ_ready (rs:=[3]) (by kernel_rfl) (by simp) ?_
    refine AllZ.cons rfl (fun K hK => ?_) AllZ.nil
    refine step_src rfl (.tmp 3) (.tmp 5) 22 rfl W0.heap.size 39 i0 (.agg #[.int .i64 0,.int .i64 0]) 2 16 und_nums hi hz0 hz1 hz2 rfl (by decide) g0 rfl own a1 n c (nums vs) rfl hln (fun h0 => (hsrc.out h0).imp fun ad h => ⟨h.1,fun j u hu => (Below.cell KT (p:=ad.add j) (by rw [addB]; exact h.2.1)).trans (h.2.2 j u hu)⟩) (nums_one vs) h63 (by omega) KT.size ?_
    intro g2 cap2 W2 own2 hg2
    have KT:=kept_grown KT hg2 g0b
    have g2l:=(row_of_owns own2).2.2.elim fun f h => h.1.lt
    have Hm:=marks_kept Hm (hg2.block bm lm (by simp; exact ne))
    refine hK.out _ _ (sS.out _ KT) (fun hHeld => ?_)
    have own:=own2
    clear hK K hg2 own2
    refine anyZ_ready (rs:=[6]) (by kernel_rfl) (by simp) ?_
    refine AllZ.cons rfl (fun K hK => ?_) AllZ.nil
    refine step_append_lies _ rfl (.tmp 6) (.tmp 8) 22 rfl W0.heap.size 39 i0 (.agg #[.int .i64 0,.int .i64 0]) 2 16 und_nums hi hz0 hz1 hz2 rfl (by decide) (.slice (some ⟨g2,0,none⟩) n cap2) n (nums vs) rfl own ⟨bm,0,none⟩ 1 1 [.int .i64 77,.int .i64 0] rfl rfl Hm (fun u hu => by simp at hu; rcases hu with rfl | rfl <;> rfl) (by omega) h63' (by omega) KT.size _ rfl ?_
    intro g4 cap4 W4 own4 hg4 _ _
    have KT:=kept_grown KT hg4 (row_of_owns own).1
    refine hK.out _ _ (sS.out _ KT) (fun hHeld => ?_)
    clear hK K hg4 own Hm
    obtain ⟨gb,gc,f,gr,gv⟩:=row_of_owns own4
    have gc':n≤cap4:=by omega
    refine anyZ_take (i:=10) (v:=?vx2a) rfl (by kernel_rfl) (by kernel_rfl) (by kernel_rfl) (by kernel_rfl) (fun _ _ _ h => h) (Or.inl ⟨by rfl,?yx2a⟩) hHeld ?rx2a
    case yx2a =>
     intro w' hSw
     obtain ⟨hSw0,hSw1⟩:=hSw
     go_simp
     with_reducible rfl
    case rx2a =>
    refine anyZ_take (i:=11) (v:=?vx2b) rfl (by kernel_rfl) (by kernel_rfl) (by kernel_rfl) (by kernel_rfl) (fun _ _ _ h => h) (Or.inl ⟨by rfl,?yx2b⟩) hHeld ?rx2b
    case yx2b =>
     intro w' hSw
     obtain ⟨hSw0,hSw1⟩:=hSw
     go_simp
     with_reducible rfl
    case rx2b =>
    have hP:=HP.out.1.kept KT
    have hP1:=hP.c1
    have hP2:=hP.fz 1
    refine anyZ_ready (rs:=[12]) (by kernel_rfl) (by simp) ?_
    refine AllZ.last rfl (fun K hK => ?_)
    go_simp
    refine hK.out _ _ ?_
    clear hK K
    refine anyZ_done (by kernel_rfl) ?_ _
    go_wp2_with fail
    go_meet
    case rel => exact ⟨g4,cap4,f,rfl,half_of1 HP.out.2 hP KT gb gc gr gv⟩
  ·
   refine AllZ.cons rfl (fun K hK => ?_) AllZ.nil
   go_simp
   refine hK.out _ _ (sS.out _ (KT.alloc _)) (fun hHeld => ?_)
   clear hK K
   have Hm:=mark2 39 Wd (.int .i64 77) (.int .i64 0)
   have lm:Wd.heap.size < (Wd.alloc (.cells #[.int .i64 77,.int .i64 0] 39)).heap.size:=by simp
   have KT:=KT.alloc (.cells #[.int .i64 77,.int .i64 0] 39)
   obtain ⟨bm,hbm⟩:∃ g,g = Wd.heap.size:=⟨_,rfl⟩
   rw [← hbm] at Hm lm ⊢
   generalize Wd.alloc (.cells #[.int .i64 77,.int .i64 0] 39) = Wdm at Hm lm KT hHeld ⊢
   clear hbm
   refine anyZ_ready (rs:=[0]) (by kernel_rfl) (by simp) ?_
   refine AllZ.cons rfl (fun K hK => ?_) AllZ.nil
   go_simp
   refine hK.out _ _ (sS.out _ (KT.alloc _)) (fun hHeld => ?_)
   clear hK K
   have own:=own_nil 39 2 Wdm W0.heap.size KT.size
   have Hm:=marks_kept Hm (heap_alloc_lt' Wdm (.cells #[] 39) bm lm)
   have ne:¬ bm = Wdm.heap.size:=by omega
   have g0b:W0.heap.size≤Wdm.heap.size:=KT.size
   have g0l:Wdm.heap.size < (Wdm.alloc (.cells #[] 39)).heap.size:=by simp
   have KT:=KT.alloc (.cells #[] 39)
   have lm:bm < (Wdm.alloc (.cells #[] 39)).heap.size:=by simp; omega
   obtain ⟨g0,hg0⟩:∃ g,g = Wdm.heap.size:=⟨_,rfl⟩
   rw [← hg0] at own g0b g0l ne ⊢
   generalize Wdm.alloc (.cells #[] 39) = Wdme at own KT hHeld g0l Hm lm ⊢
   clear hg0
   refine anyZ_ready (rs:=[3]) (by kernel_rfl) (by simp) ?_
   refine AllZ.cons rfl (fun K hK => ?_) AllZ.nil
   refine step_src rfl (.tmp 3) (.tmp 5) 22 rfl W0.heap.size 39 i0 (.agg #[.int .i64 0,.int .i64 0]) 2 16 und_nums hi hz0 hz1 hz2 rfl (by decide) g0 rfl own a1 n c (nums vs) rfl hln (fun h0 => (hsrc.out h0).imp fun ad h => ⟨h.1,fun j u hu => (Below.cell KT (p:=ad.add j) (by rw [addB]; exact h.2.1)).trans (h.2.2 j u hu)⟩) (nums_one vs) h63 (by omega) KT.size ?_
   intro g2 cap2 W2 own2 hg2
   have KT:=kept_grown KT hg2 g0b
   have g2l:=(row_of_owns own2).2.2.elim fun f h => h.1.lt
   have Hm:=marks_kept Hm (hg2.block bm lm (by simp; exact ne))
   refine hK.out _ _ (sS.out _ KT) (fun hHeld => ?_)
   have own:=own2
   clear hK K hg2 own2
   refine anyZ_ready (rs:=[6]) (by kernel_rfl) (by simp) ?_
   refine AllZ.cons rfl (fun K hK => ?_) AllZ.nil
   refine step_append_lies _ rfl (.tmp 6) (.tmp 8) 22 rfl W0.heap.size 39 i0 (.agg #[.int .i64 0,.int .i64 0]) 2 16 und_nums hi hz0 hz1 hz2 rfl (by decide) (.slice (some ⟨g2,0,none⟩) n cap2) n (nums vs) rfl own ⟨bm,0,none⟩ 1 1 [.int .i64 77,.int .i64 0] rfl rfl Hm (fun u hu => by simp at hu; rcases hu with rfl | rfl <;> rfl) (by omega) h63' (by omega) KT.size _ rfl ?_
   intro g4 cap4 W4 own4 hg4 _ _
   have KT:=kept_grown KT hg4 (row_of_owns own).1
   refine hK.out _ _ (sS.out _ KT) (fun hHeld => ?_)
   clear hK K hg4 own Hm
   obtain ⟨gb,gc,f,gr,gv⟩:=row_of_owns own4
   have gc':n≤cap4:=by omega
   refine anyZ_take (i:=10) (v:=?vx3a) rfl (by kernel_rfl) (by kernel_rfl) (by kernel_rfl) (by kernel_rfl) (fun _ _ _ h => h) (Or.inl ⟨by rfl,?yx3a⟩) hHeld ?rx3a
   case yx3a =>
    intro w' hSw
    obtain ⟨hSw0,hSw1⟩:=hSw
    go_simp
    with_reducible rfl
   case rx3a =>
   refine anyZ_take (i:=11) (v:=?vx3b) rfl (by kernel_rfl) (by kernel_rfl) (by kernel_rfl) (by kernel_rfl) (fun _ _ _ h => h) (Or.inl ⟨by rfl,?yx3b⟩) hHeld ?rx3b
   case yx3b =>
    intro w' hSw
    obtain ⟨hSw0,hSw1⟩:=hSw
    go_simp
    with_reducible rfl
   case rx3b =>
   have hP:=HP.out.1.kept KT
   have hP1:=hP.c1
   have hP2:=hP.fz 1
   refine anyZ_ready (rs:=[12]) (by kernel_rfl) (by simp) ?_
   refine AllZ.last rfl (fun K hK => ?_)
   go_simp
   refine hK.out _ _ ?_
   clear hK K
   refine anyZ_done (by kernel_rfl) ?_ _
   go_wp2_with fail
   go_meet
   case rel => exact ⟨g4,cap4,f,rfl,half_of1 HP.out.2 hP KT gb gc gr gv⟩
 case rest =>
  obtain ⟨g1,cap1,f1,rfl,H1⟩:=hcut
  have HP2:Hid (Row3 25 wc p (.int .i64 k) (.slice (some ⟨g1,0,none⟩) n cap1) (.slice a2 m c')∧Kept w wc∧w.heap.size≤p∧p < wc.heap.size∧¬ q = p∧Row3 25 wc q (.int .i64 0) (.slice none 0 0) (.slice none 0 0)):=⟨H1.out.rp,H1.out.kp,HP.out.2.2.1,H1.out.rp.lt,HP.out.2.2.2.2.1,H1.out.rq⟩
  have HG:Hid (¬ g1 = p∧w.heap.size≤g1∧¬ g1 = q∧n + 1≤cap1∧wc.rowIs g1 39 (cap1 * 2) f1∧∀ i u,(nums vs ++ [.int .i64 77,.int .i64 0])[i]? = some u→f1 i = u):=⟨fun e => by have h1:=HP.out.2.2.2.1; have h2:=H1.out.gb; omega,Nat.le_trans HP.out.2.1.size H1.out.gb,fun e => by have h1:=HP.out.2.2.2.2.2.lt; have h2:=H1.out.gb; omega,H1.out.gc,H1.out.r,H1.out.v⟩
  clear HP hsrc H1 hln h63 h63'
  have hln:(ints ss).length = m * 1:=by rw [ints_len,← (ISl.src HS.out.2).1]
  have h63:m≤maxLen:=by unfold maxLen; omega
  have h63':m + 1≤maxLen:=by unfold maxLen; omega
  have hsrc2:Hid (0 < m→∃ ad:Addr,a2 = some ad∧ad.block < wc.heap.size∧∀ j u,(ints ss)[j]? = some u→wc.cell? (ad.add j) = some u):=(ISl.src (HS.out.2.kept HP2.out.2.1)).2
  go_upto_region 2 with fail
  go_cut [24] (fun s24 wd => ∃ g cap f,s24 = .slice (some ⟨g,0,none⟩) m cap∧Hid (Half w wc wd p q k (.slice (some ⟨g1,0,none⟩) n cap1) (.slice (some ⟨g,0,none⟩) m cap) g 3 1 m cap (ints ss ++ [.int .i64 (-77)]) f))
  case first =>
   obtain ⟨i0,hi,hz0,hz1,hz2⟩:=info_parts info_int
   have sS:=hid' (fun (V:World) (K:Kept wc V) => And.intro ((HP2.out.1.kept K).c0) ((HP2.out.1.kept K).c2))
   have KT:Kept wc wc.drew:=(Kept.refl _).drew
   refine region_z 11 (S:=fun w' => w'.cell? ⟨p,0,none⟩ = some (.int .i64 k)∧w'.cell? ⟨p,2,none⟩ = some (.slice a2 m c')) (by kernel_rfl) (sS.out _ KT) (fun hHeld => ?_)
   generalize wc.drew = Wd at KT hHeld ⊢
   refine anyZ_take (i:=1) (v:=?vut1) rfl (by kernel_rfl) (by kernel_rfl) (by kernel_rfl) (by kernel_rfl) (fun _ _ _ h => h) (Or.inl ⟨by rfl,?yut1⟩) hHeld ?rut1
   case yut1 =>
    intro w' hSw
    obtain ⟨hSw0,hSw1⟩:=hSw
    go_simp
    with_reducible rfl
   case rut1 =>
   refine anyZ_take (i:=2) (v:=?vut2) rfl (by kernel_rfl) (by kernel_rfl) (by kernel_rfl) (by kernel_rfl) (fun _ _ _ h => h) (Or.inl ⟨by rfl,?yut2⟩) hHeld ?rut2
   case yut2 =>
    intro w' hSw
    obtain ⟨hSw0,hSw1⟩:=hSw
    go_simp
    with_reducible rfl
   case rut2 =>
   refine anyZ_take (i:=6) (v:=?vut6) rfl (by kernel_rfl) (by kernel_rfl) (by kernel_rfl) (by kernel_rfl) (fun _ _ _ h => h) (Or.inl ⟨by rfl,?yut6⟩) hHeld ?rut6
   case yut6 =>
    intro w' hSw
    obtain ⟨hSw0,hSw1⟩:=hSw
    go_simp
    with_reducible rfl
   case rut6 =>
   refine anyZ_take (i:=7) (v:=?vut7) rfl (by kernel_rfl) (by kernel_rfl) (by kernel_rfl) (by kernel_rfl) (fun _ _ _ h => h) (Or.inl ⟨by rfl,?yut7⟩) hHeld ?rut7
   case yut7 =>
    intro w' hSw
    obtain ⟨hSw0,hSw1⟩:=hSw
    go_simp
    with_reducible rfl
   case rut7 =>
   refine anyZ_take (i:=8) (v:=?vut8) rfl (by kernel_rfl) (by kernel_rfl) (by kernel_rfl) (by kernel_rfl) (fun _ _ _ h => h) (Or.inl ⟨by rfl,?yut8⟩) hHeld ?rut8
   case yut8 =>
    intro w' hSw
    obtain ⟨hSw0,hSw1⟩:=hSw
    go_simp
    with_reducible rfl
   case rut8 =>
   refine anyZ_ready (rs:=[0,4]) (by kernel_rfl) (by simp) ?_
   refine AllZ.cons rfl (fun K hK => ?_) ?_
   ·
    skip
    go_simp
    refine hK.out _ _ (sS.out _ (KT.alloc _)) (fun hHeld => ?_)
    clear hK K
    have own:=own_nil 3 1 Wd wc.heap.size KT.size
    have g0b:wc.heap.size≤Wd.heap.size:=KT.size
    have g0l:Wd.heap.size < (Wd.alloc (.cells #[] 3)).heap.size:=by simp
    have KT:=KT.alloc (.cells #[] 3)
    obtain ⟨g0,hg0⟩:∃ g,g = Wd.heap.size:=⟨_,rfl⟩
    rw [← hg0] at own g0b g0l ⊢
    generalize Wd.alloc (.cells #[] 3) = Wde at own KT hHeld g0l ⊢
    clear hg0
    refine anyZ_ready (rs:=[3,4]) (by kernel_rfl) (by simp) ?_
    refine AllZ.cons rfl (fun K hK => ?_) ?_
    ·
     skip
     refine step_src rfl (.tmp 15) (.tmp 17) 23 rfl wc.heap.size 3 i0 (.int .i64 0) 1 8 und_ints hi hz0 hz1 hz2 rfl (by decide) g0 rfl own a2 m c' (ints ss) rfl hln (fun h0 => (hsrc2.out h0).imp fun ad h => ⟨h.1,fun j u hu => (Below.cell KT (p:=ad.add j) (by rw [addB]; exact h.2.1)).trans (h.2.2 j u hu)⟩) (ints_one ss) h63 (by omega) KT.size ?_
     intro g2 cap2 W2 own2 hg2
     have KT:=kept_grown KT hg2 g0b
     have g2l:=(row_of_owns own2).2.2.elim fun f h => h.1.lt
     refine hK.out _ _ (sS.out _ KT) (fun hHeld => ?_)
     have own:=own2
     clear hK K hg2 own2
     clear g0l
     refine anyZ_ready (rs:=[4]) (by kernel_rfl) (by simp) ?_
     refine AllZ.cons rfl (fun K hK => ?_) AllZ.nil
     go_simp
     refine hK.out _ _ (sS.out _ (KT.alloc _)) (fun hHeld => ?_)
     clear hK K
     have Hm:=mark1 3 W2 (.int .i64 (-77))
     have lm:W2.heap.size < (W2.alloc (.cells #[.int .i64 (-77)] 3)).heap.size:=by simp
     have ne:¬ W2.heap.size = g2:=by omega
     have own:=own.alloc (.cells #[.int .i64 (-77)] 3)
     have g2l:g2 < (W2.alloc (.cells #[.int .i64 (-77)] 3)).heap.size:=by simp; omega
     have KT:=KT.alloc (.cells #[.int .i64 (-77)] 3)
     obtain ⟨bm,hbm⟩:∃ g,g = W2.heap.size:=⟨_,rfl⟩
     rw [← hbm] at Hm lm ne ⊢
     generalize W2.alloc (.cells #[.int .i64 (-77)] 3) = W2m at Hm lm KT hHeld own g2l ⊢
     clear hbm
     refine anyZ_ready (rs:=[5]) (by kernel_rfl) (by simp) ?_
     refine AllZ.cons rfl (fun K hK => ?_) AllZ.nil
     refine step_append_lies _ rfl (.tmp 18) (.tmp 19) 23 rfl wc.heap.size 3 i0 (.int .i64 0) 1 8 und_ints hi hz0 hz1 hz2 rfl (by decide) (.slice (some ⟨g2,0,none⟩) m cap2) m (ints ss) rfl own ⟨bm,0,none⟩ 1 1 [.int .i64 (-77)] rfl rfl Hm (fun u hu => by simp at hu; subst hu; rfl) (by omega) h63' (by omega) KT.size _ rfl ?_
     intro g4 cap4 W4 own4 hg4 _ _
     have KT:=kept_grown KT hg4 (row_of_owns own).1
     refine hK.out _ _ (sS.out _ KT) (fun hHeld => ?_)
     clear hK K hg4 own Hm
     obtain ⟨gb,gc,f,gr,gv⟩:=row_of_owns own4
     have gc':m≤cap4:=by omega
     refine anyZ_take (i:=9) (v:=?vu1a) rfl (by kernel_rfl) (by kernel_rfl) (by kernel_rfl) (by kernel_rfl) (fun _ _ _ h => h) (Or.inl ⟨by rfl,?yu1a⟩) hHeld ?ru1a
     case yu1a =>
      intro w' hSw
      obtain ⟨hSw0,hSw1⟩:=hSw
      go_simp
      with_reducible rfl
     case ru1a =>
     refine anyZ_take (i:=10) (v:=?vu1b) rfl (by kernel_rfl) (by kernel_rfl) (by kernel_rfl) (by kernel_rfl) (fun _ _ _ h => h) (Or.inl ⟨by rfl,?yu1b⟩) hHeld ?ru1b
     case yu1b =>
      intro w' hSw
      obtain ⟨hSw0,hSw1⟩:=hSw
      go_simp
      with_reducible rfl
     case ru1b =>
     have hP:=HP2.out.1.kept KT
     have hP1:=hP.c2
     have hP2:=hP.fz 2
     refine anyZ_ready (rs:=[11]) (by kernel_rfl) (by simp) ?_
     refine AllZ.last rfl (fun K hK => ?_)
     go_simp
     refine hK.out _ _ ?_
     clear hK K
     refine anyZ_done (by kernel_rfl) ?_ _
     go_wp2_with fail
     go_meet
     case rel => exact ⟨g4,cap4,f,rfl,half_of2 HP2.out.2 hP KT gb gc gr gv⟩
    ·
     refine AllZ.cons rfl (fun K hK => ?_) AllZ.nil
     go_simp
     refine hK.out _ _ (sS.out _ (KT.alloc _)) (fun hHeld => ?_)
     clear hK K
     have Hm:=mark1 3 Wde (.int .i64 (-77))
     have lm:Wde.heap.size < (Wde.alloc (.cells #[.int .i64 (-77)] 3)).heap.size:=by simp
     have ne:¬ Wde.heap.size = g0:=by omega
     have own:=own.alloc (.cells #[.int .i64 (-77)] 3)
     have g0l:g0 < (Wde.alloc (.cells #[.int .i64 (-77)] 3)).heap.size:=by simp; omega
     have KT:=KT.alloc (.cells #[.int .i64 (-77)] 3)
     obtain ⟨bm,hbm⟩:∃ g,g = Wde.heap.size:=⟨_,rfl⟩
     rw [← hbm] at Hm lm ne ⊢
     generalize Wde.alloc (.cells #[.int .i64 (-77)] 3) = Wdem at Hm lm KT hHeld own g0l ⊢
     clear hbm
     refine anyZ_ready (rs:=[3]) (by kernel_rfl) (by simp) ?_
     refine AllZ.cons rfl (fun K hK => ?_) AllZ.nil
     refine step_src rfl (.tmp 15) (.tmp 17) 23 rfl wc.heap.size 3 i0 (.int .i64 0) 1 8 und_ints hi hz0 hz1 hz2 rfl (by decide) g0 rfl own a2 m c' (ints ss) rfl hln (fun h0 => (hsrc2.out h0).imp fun ad h => ⟨h.1,fun j u hu => (Below.cell KT (p:=ad.add j) (by rw [addB]; exact h.2.1)).trans (h.2.2 j u hu)⟩) (ints_one ss) h63 (by omega) KT.size ?_
     intro g2 cap2 W2 own2 hg2
     have KT:=kept_grown KT hg2 g0b
     have g2l:=(row_of_owns own2).2.2.elim fun f h => h.1.lt
     have Hm:=marks_kept Hm (hg2.block bm lm (by simp; exact ne))
     refine hK.out _ _ (sS.out _ KT) (fun hHeld => ?_)
     have own:=own2
     clear hK K hg2 own2
     refine anyZ_ready (rs:=[5]) (by kernel_rfl) (by simp) ?_
     refine AllZ.cons rfl (fun K hK => ?_) AllZ.nil
     refine step_append_lies _ rfl (.tmp 18) (.tmp 19) 23 rfl wc.heap.size 3 i0 (.int .i64 0) 1 8 und_ints hi hz0 hz1 hz2 rfl (by decide) (.slice (some ⟨g2,0,none⟩) m cap2) m (ints ss) rfl own ⟨bm,0,none⟩ 1 1 [.int .i64 (-77)] rfl rfl Hm (fun u hu => by simp at hu; subst hu; rfl) (by omega) h63' (by omega) KT.size _ rfl ?_
     intro g4 cap4 W4 own4 hg4 _ _
     have KT:=kept_grown KT hg4 (row_of_owns own).1
     refine hK.out _ _ (sS.out _ KT) (fun hHeld => ?_)
     clear hK K hg4 own Hm
     obtain ⟨gb,gc,f,gr,gv⟩:=row_of_owns own4
     have gc':m≤cap4:=by omega
     refine anyZ_take (i:=9) (v:=?vu2a) rfl (by kernel_rfl) (by kernel_rfl) (by kernel_rfl) (by kernel_rfl) (fun _ _ _ h => h) (Or.inl ⟨by rfl,?yu2a⟩) hHeld ?ru2a
     case yu2a =>
      intro w' hSw
      obtain ⟨hSw0,hSw1⟩:=hSw
      go_simp
      with_reducible rfl
     case ru2a =>
     refine anyZ_take (i:=10) (v:=?vu2b) rfl (by kernel_rfl) (by kernel_rfl) (by kernel_rfl) (by kernel_rfl) (fun _ _ _ h => h) (Or.inl ⟨by rfl,?yu2b⟩) hHeld ?ru2b
     case yu2b =>
      intro w' hSw
      obtain ⟨hSw0,hSw1⟩:=hSw
      go_simp
      with_reducible rfl
     case ru2b =>
     have hP:=HP2.out.1.kept KT
     have hP1:=hP.c2
     have hP2:=hP.fz 2
     refine anyZ_ready (rs:=[11]) (by kernel_rfl) (by simp) ?_
     refine AllZ.last rfl (fun K hK => ?_)
     go_simp
     refine hK.out _ _ ?_
     clear hK K
     refine anyZ_done (by kernel_rfl) ?_ _
     go_wp2_with fail
     go_meet
     case rel => exact ⟨g4,cap4,f,rfl,half_of2 HP2.out.2 hP KT gb gc gr gv⟩
   ·
    refine AllZ.cons rfl (fun K hK => ?_) AllZ.nil
    go_simp
    refine hK.out _ _ (sS.out _ (KT.alloc _)) (fun hHeld => ?_)
    clear hK K
    have Hm:=mark1 3 Wd (.int .i64 (-77))
    have lm:Wd.heap.size < (Wd.alloc (.cells #[.int .i64 (-77)] 3)).heap.size:=by simp
    have KT:=KT.alloc (.cells #[.int .i64 (-77)] 3)
    obtain ⟨bm,hbm⟩:∃ g,g = Wd.heap.size:=⟨_,rfl⟩
    rw [← hbm] at Hm lm ⊢
    generalize Wd.alloc (.cells #[.int .i64 (-77)] 3) = Wdm at Hm lm KT hHeld ⊢
    clear hbm
    refine anyZ_ready (rs:=[0]) (by kernel_rfl) (by simp) ?_
    refine AllZ.cons rfl (fun K hK => ?_) AllZ.nil
    go_simp
    refine hK.out _ _ (sS.out _ (KT.alloc _)) (fun hHeld => ?_)
    clear hK K
    have own:=own_nil 3 1 Wdm wc.heap.size KT.size
    have Hm:=marks_kept Hm (heap_alloc_lt' Wdm (.cells #[] 3) bm lm)
    have ne:¬ bm = Wdm.heap.size:=by omega
    have g0b:wc.heap.size≤Wdm.heap.size:=KT.size
    have g0l:Wdm.heap.size < (Wdm.alloc (.cells #[] 3)).heap.size:=by simp
    have KT:=KT.alloc (.cells #[] 3)
    have lm:bm < (Wdm.alloc (.cells #[] 3)).heap.size:=by simp; omega
    obtain ⟨g0,hg0⟩:∃ g,g = Wdm.heap.size:=⟨_,rfl⟩
    rw [← hg0] at own g0b g0l ne ⊢
    generalize Wdm.alloc (.cells #[] 3) = Wdme at own KT hHeld g0l Hm lm ⊢
    clear hg0
    refine anyZ_ready (rs:=[3]) (by kernel_rfl) (by simp) ?_
    refine AllZ.cons rfl (fun K hK => ?_) AllZ.nil
    refine step_src rfl (.tmp 15) (.tmp 17) 23 rfl wc.heap.size 3 i0 (.int .i64 0) 1 8 und_ints hi hz0 hz1 hz2 rfl (by decide) g0 rfl own a2 m c' (ints ss) rfl hln (fun h0 => (hsrc2.out h0).imp fun ad h => ⟨h.1,fun j u hu => (Below.cell KT (p:=ad.add j) (by rw [addB]; exact h.2.1)).trans (h.2.2 j u hu)⟩) (ints_one ss) h63 (by omega) KT.size ?_
    intro g2 cap2 W2 own2 hg2
    have KT:=kept_grown KT hg2 g0b
    have g2l:=(row_of_owns own2).2.2.elim fun f h => h.1.lt
    have Hm:=marks_kept Hm (hg2.block bm lm (by simp; exact ne))
    refine hK.out _ _ (sS.out _ KT) (fun hHeld => ?_)
    have own:=own2
    clear hK K hg2 own2
    refine anyZ_ready (rs:=[5]) (by kernel_rfl) (by simp) ?_
    refine AllZ.cons rfl (fun K hK => ?_) AllZ.nil
    refine step_append_lies _ rfl (.tmp 18) (.tmp 19) 23 rfl wc.heap.size 3 i0 (.int .i64 0) 1 8 und_ints hi hz0 hz1 hz2 rfl (by decide) (.slice (some ⟨g2,0,none⟩) m cap2) m (ints ss) rfl own ⟨bm,0,none⟩ 1 1 [.int .i64 (-77)] rfl rfl Hm (fun u hu => by simp at hu; subst hu; rfl) (by omega) h63' (by omega) KT.size _ rfl ?_
    intro g4 cap4 W4 own4 hg4 _ _
    have KT:=kept_grown KT hg4 (row_of_owns own).1
    refine hK.out _ _ (sS.out _ KT) (fun hHeld => ?_)
    clear hK K hg4 own Hm
    obtain ⟨gb,gc,f,gr,gv⟩:=row_of_owns own4
    have gc':m≤cap4:=by omega
    refine anyZ_take (i:=9) (v:=?vu3a) rfl (by kernel_rfl) (by kernel_rfl) (by kernel_rfl) (by kernel_rfl) (fun _ _ _ h => h) (Or.inl ⟨by rfl,?yu3a⟩) hHeld ?ru3a
    case yu3a =>
     intro w' hSw
     obtain ⟨hSw0,hSw1⟩:=hSw
     go_simp
     with_reducible rfl
    case ru3a =>
    refine anyZ_take (i:=10) (v:=?vu3b) rfl (by kernel_rfl) (by kernel_rfl) (by kernel_rfl) (by kernel_rfl) (fun _ _ _ h => h) (Or.inl ⟨by rfl,?yu3b⟩) hHeld ?ru3b
    case yu3b =>
     intro w' hSw
     obtain ⟨hSw0,hSw1⟩:=hSw
     go_simp
     with_reducible rfl
    case ru3b =>
    have hP:=HP2.out.1.kept KT
    have hP1:=hP.c2
    have hP2:=hP.fz 2
    refine anyZ_ready (rs:=[11]) (by kernel_rfl) (by simp) ?_
    refine AllZ.last rfl (fun K hK => ?_)
    go_simp
    refine hK.out _ _ ?_
    clear hK K
    refine anyZ_done (by kernel_rfl) ?_ _
    go_wp2_with fail
    go_meet
    case rel => exact ⟨g4,cap4,f,rfl,half_of2 HP2.out.2 hP KT gb gc gr gv⟩
  case rest =>
   obtain ⟨g2,cap2,f2,rfl,H2⟩:=hcut
   have c0:=H2.out.rp.c0
   have c1:=H2.out.rp.c1
   have c2:=H2.out.rp.c2
   have d0:=H2.out.rq.c0
   have d1:=H2.out.rq.c1
   have d2:=H2.out.rq.c2
   have e0:=H2.out.rq.fz 0
   have e1:=H2.out.rq.fz 1
   have e2:=H2.out.rq.fz 2
   have LE:=hid' (lent_end HQ.out (NSl.src HS.out.1).1 (ISl.src HS.out.2).1 HP2.out HG.out.2 HG.out.1 H2.out)
   go_wp2_with fail
   refine bodyPost_ret (v:=.agg #[.int .i64 k,.slice (some ⟨g1,0,none⟩) n cap1,.slice (some ⟨g2,0,none⟩) m cap2]) (by simp [results,Tryz.results5,go_sem,d0,d1,d2]) rfl ⟨(LE.out _ _ _).1,g1,cap1,g2,cap2,f1,f2,rfl,(LE.out _ _ _).2⟩
end V
end Go.Proofs.YtgofinhnlcbafaaGreat
