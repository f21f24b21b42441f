/- Lists of one and two fractions; a right fraction's parts. rat.Round, of a right fraction. shuntlaw02's of and same; Check of whatever fraction. shuntref02.Fault: what a fraction is refused for. shuntref02.Faults: what a list of fractions is refused for. rat.compare: two fractions above 0, held against one another by whole parts and rests. rat.compare: the walk. rat.Cmp of right fractions. -/
import Derived.Test.YtgofinhnlcbafaaGreatGao
import Derived.Test.YtgofinhnlcbafaaGreatGan
import Derived.Test.YtgofinhnlcbafaaGreatGam
import Derived.Test.YtgofinhnlcbafaaGreatGai
import Derived.Test.YtgofinhnlcbafaaGreatGad
namespace Go.Proofs.YtgofinhnlcbafaaGreat
open Go.RowKit
namespace F
structure RatR (m n:Bool) (a d:List Nat):Prop where
 ra:R m a
 rd:R n d
 pos:0 < M.int n d
 low:Nat.gcd (M.val a) (M.val d) = 1
theorem RatR.sgn {m n:Bool} {a d:List Nat} (h:RatR m n a d):n = false:=by
 cases n
 ·
  rfl
 ·
  have:=int_neg_lt h.rd; have:=h.pos; omega
theorem RatR.val {m n:Bool} {a d:List Nat} (h:RatR m n a d):M.int n d = (M.val d:Int):=by rw [h.sgn]; simp [M.int]
theorem RatR.vpos {m n:Bool} {a d:List Nat} (h:RatR m n a d):0 < M.val d:=by have:=h.pos; rw [h.val] at this; omega
def two {α:Type} (x y:α) (i:Nat):α:=if i = 0 then x else y
theorem RatAll.two {w:World} {b:Nat} {m n p q:Bool} {a1 a2 b1 b2:Option Addr} {k1 c1 k2 c2 k3 c3 k4 c4:Nat} {an ad bn bd:List Nat}
  (h0:w.cell? ⟨b,0,none⟩ = some (.bool m)) (h1:w.cell? ⟨b,1,none⟩ = some (.slice a1 k1 c1)) (h2:w.cell? ⟨b,2,none⟩ = some (.bool n)) (h3:w.cell? ⟨b,3,none⟩ = some (.slice a2 k2 c2))
  (h4:w.cell? ⟨b,4,none⟩ = some (.bool p)) (h5:w.cell? ⟨b,5,none⟩ = some (.slice b1 k3 c3)) (h6:w.cell? ⟨b,6,none⟩ = some (.bool q)) (h7:w.cell? ⟨b,7,none⟩ = some (.slice b2 k4 c4))
  (s1:Sl w (.slice a1 k1 c1) an) (s2:Sl w (.slice a2 k2 c2) ad) (s3:Sl w (.slice b1 k3 c3) bn) (s4:Sl w (.slice b2 k4 c4) bd)
  (l1:an.length≤9223372036854775807) (l2:ad.length≤9223372036854775807) (l3:bn.length≤9223372036854775807) (l4:bd.length≤9223372036854775807) :
  RatAll w b 0 2 (F.two m p) (F.two n q) (F.two a1 b1) (F.two a2 b2) (F.two k1 k3) (F.two c1 c3) (F.two k2 k4) (F.two c2 c4) (F.two an bn) (F.two ad bd):=by
 intro i hi
 match i,hi with
 | 0,_ => exact ⟨⟨h0,h1,h2,h3⟩,s1,s2,l1,l2⟩
 | 1,_ => exact ⟨⟨h4,h5,h6,h7⟩,s3,s4,l3,l4⟩
theorem Refused.two {m n p q:Bool} {an ad bn bd:List Nat} {c:Int} (hA:RatR m n an ad) (hB:RatR p q bn bd) (h:Refused 2 (F.two m p) (F.two n q) (F.two an bn) (F.two ad bd) c):c = 0:=by
 rcases h with ⟨_,i,hi,h⟩ | ⟨_,⟨_,i,hi,h⟩ | ⟨h,_⟩⟩
 ·
  exfalso
  match i,hi with
  | 0,_ => exact h ⟨hA.ra,hA.rd⟩
  | 1,_ => exact h ⟨hB.ra,hB.rd⟩
 ·
  exfalso
  match i,hi with
  | 0,_ => exact h ⟨hA.pos,hA.low⟩
  | 1,_ => exact h ⟨hB.pos,hB.low⟩
 ·
  exact h
theorem RatAll.single {w:World} {b:Nat} {m n:Bool} {a1 a2:Option Addr} {k1 c1 k2 c2:Nat} {an ad:List Nat}
  (h0:w.cell? ⟨b,0,none⟩ = some (.bool m)) (h1:w.cell? ⟨b,1,none⟩ = some (.slice a1 k1 c1)) (h2:w.cell? ⟨b,2,none⟩ = some (.bool n)) (h3:w.cell? ⟨b,3,none⟩ = some (.slice a2 k2 c2))
  (s1:Sl w (.slice a1 k1 c1) an) (s2:Sl w (.slice a2 k2 c2) ad) (l1:an.length≤9223372036854775807) (l2:ad.length≤9223372036854775807) :
  RatAll w b 0 1 (fun _ => m) (fun _ => n) (fun _ => a1) (fun _ => a2) (fun _ => k1) (fun _ => c1) (fun _ => k2) (fun _ => c2) (fun _ => an) (fun _ => ad):=by
 intro i hi
 match i,hi with
 | 0,_ => exact ⟨⟨h0,h1,h2,h3⟩,s1,s2,l1,l2⟩
theorem Refused.single {m n:Bool} {an ad:List Nat} {c:Int} (hA:RatR m n an ad) (h:Refused 1 (fun _ => m) (fun _ => n) (fun _ => an) (fun _ => ad) c):c = 0:=by
 rcases h with ⟨_,i,hi,h⟩ | ⟨_,⟨_,i,hi,h⟩ | ⟨h,_⟩⟩
 ·
  exact absurd ⟨hA.ra,hA.rd⟩ h
 ·
  exact absurd ⟨hA.pos,hA.low⟩ h
 ·
  exact h
end F
end Go.Proofs.YtgofinhnlcbafaaGreat

namespace Go.Proofs.YtgofinhnlcbafaaGreat
open Go.RowKit
namespace F
def near (n:Int) (d:Nat):Int :=
 if isgn (Int.tmod n d).natAbs ((d:Int) - (Int.tmod n d).natAbs) = 1 ∨ (isgn (Int.tmod n d).natAbs ((d:Int) - (Int.tmod n d).natAbs) = 0∧Int.tdiv n d % 2 ≠ 0) then Int.tdiv n d + isgn (Int.tmod n d) 0 else Int.tdiv n d
def gridV (z:Int):Int:=if -1000000000000000000≤z∧z≤1000000000000000000 then z else 0
def gridE (z:Int):Int:=if -1000000000000000000≤z∧z≤1000000000000000000 then 0 else 4
theorem sgn_small' (x:Int):-1≤isgn x 0∧isgn x 0≤1:=by unfold isgn; split <;> (try split) <;> omega
theorem sgn_three {h x y:Int} (e:h = isgn x y):h = -1 ∨ h = 0 ∨ h = 1:=by
 rw [e]; unfold isgn; split <;> (try split) <;> simp
theorem near_stay {n:Int} {d:Nat} {x z:Int} (h:x = isgn (Int.tmod n d).natAbs ((d:Int) - (Int.tmod n d).natAbs)) (c:x = -1 ∨ (x = 0∧z % 2 = 0)) (hz:z = Int.tdiv n d):near n d = z:=by
 unfold near
 rw [← h,← hz,if_neg (by omega)]
theorem near_step {n:Int} {d:Nat} {x z sg:Int} (h:x = isgn (Int.tmod n d).natAbs ((d:Int) - (Int.tmod n d).natAbs)) (c:x = 1 ∨ (x = 0∧¬ z % 2 = 0)) (hz:z = Int.tdiv n d) (hs:sg = isgn (Int.tmod n d) 0):near n d = z + sg:=by
 unfold near
 rw [← h,← hz,← hs,if_pos (by omega)]
theorem ret_grid {x z:Int} (h:-1000000000000000000≤x∧x≤1000000000000000000) (e:x = z):Ending.returned (.tuple #[.int .i64 x,.int .i64 0]) = Ending.returned (.tuple #[.int .i64 (gridV z),.int .i64 (gridE z)]):=by
 subst e; unfold gridV gridE; rw [if_pos h,if_pos h]
theorem ret_off {z:Int} (h:¬ (-1000000000000000000≤z∧z≤1000000000000000000)):Ending.returned (.tuple #[.int .i64 0,.int .i64 4]) = Ending.returned (.tuple #[.int .i64 (gridV z),.int .i64 (gridE z)]):=by
 unfold gridV gridE; rw [if_neg h,if_neg h]
theorem even_tmod {z:Int}:Int.tmod z 2 = 0 ↔ z % 2 = 0:=by
 rw [← Int.dvd_iff_tmod_eq_zero,← Int.dvd_iff_emod_eq_zero]
theorem wrap_in {z s:Int} (_hz:-9223372036854775808≤z∧z≤9223372036854775807) (_hs:-1≤s∧s≤1) (h:-1000000000000000000≤wrap64 (z + s)∧wrap64 (z + s)≤1000000000000000000):(-1000000000000000000≤wrap64 (z + s)∧wrap64 (z + s)≤1000000000000000000)∧wrap64 (z + s) = z + s:=by
 refine ⟨h,?_⟩
 unfold wrap64 at h ⊢
 omega
theorem wrap_out {z s:Int} (_hz:-9223372036854775808≤z∧z≤9223372036854775807) (_hs:-1≤s∧s≤1) (h:¬ (-1000000000000000000≤wrap64 (z + s)∧wrap64 (z + s)≤1000000000000000000)):¬ (-1000000000000000000≤z + s∧z + s≤1000000000000000000):=by
 unfold wrap64 at h
 omega
theorem off_far {z s:Int} (h:¬ (-9223372036854775808≤z∧z≤9223372036854775807)) (hs:-1≤s∧s≤1):¬ (-1000000000000000000≤z + s∧z + s≤1000000000000000000):=by omega
theorem off_far0 {z:Int} (h:¬ (-9223372036854775808≤z∧z≤9223372036854775807)):¬ (-1000000000000000000≤z∧z≤1000000000000000000):=by omega
set_option maxHeartbeats 4000000 in
theorem Round_ok (m n:Bool) (aoa aob:Option Addr) (ka ca kb cb:Nat) (a d:List Nat) (w:World) (ha:Sl w (.slice aoa ka ca) a) (hd:Sl w (.slice aob kb cb) d) (hA:RatR m n a d) :
  Calls Tryz.prog 45 #[.agg #[.bool m,.slice aoa ka ca,.bool n,.slice aob kb cb]] w fun e w' => e = .returned (.tuple #[.int .i64 (gridV (near (M.int m a) (M.val d))),.int .i64 (gridE (near (M.int m a) (M.val d)))])∧Kept w w':=by
 obtain rfl:=hA.sgn
 have HA:Hid (Sl w (.slice aoa ka ca) a∧Sl w (.slice aob kb cb) d):=⟨ha,hd⟩
 have HR:Hid (RatR m false a d∧0 < d.length):=⟨hA,len_pos (s:=false) hA.pos⟩
 have HL:Hid (a.length≤72∧d.length≤72):=⟨hA.ra.1,hA.rd.1⟩
 have HX:Hid (M.int false d = (M.val d:Int)):=hA.val
 clear ha hd hA
 have K2:∀ x y,Kept w ((w.alloc x).alloc y):=fun x y => ((Kept.refl w).alloc x).alloc y
 go_enter Tryz.func45,Tryz.ntmps45
 go_wp2_with fail
 refine (refusal_any _ (w.heap.size + 1) 0 1 1 _ _ _ _ _ _ _ _ _ _ _ (fun _ => rfl) (by omega) (RatAll.single (m:=m) (n:=false) (a1:=aoa) (a2:=aob) (k1:=ka) (c1:=ca) (k2:=kb) (c2:=cb) (by simp) (by simp) (by simp) (by simp) (HA.out.1.kept (K2 _ _)) (HA.out.2.kept (K2 _ _)) (by have:=HL.out; omega) (by have:=HL.out; omega))).mono ?_
 rintro e w1 ⟨hk,c,rfl,hc⟩
 obtain rfl:c = 0:=Refused.single HR.out.1 hc
 clear hc
 have rA:=((RRow.alloc w (.bool m) (.slice aoa ka ca) (.bool false) (.slice aob kb cb))).kept (((Kept.refl _).alloc _).trans hk)
 have HK:Hid (Kept w w1):=(K2 _ _).trans hk
 have q0:=rA.c0
 have q1:=rA.c1
 have q2:=rA.c2
 have q3:=rA.c3
 have HRA:=hid' rA
 clear hk K2 rA
 go_wp2_with fail
 refine (quoRem_r m false (.slice aoa ka ca) (.slice aob kb cb) a d _ (HA.out.1.kept HK.out) (HA.out.2.kept HK.out) HR.out.1.ra HR.out.1.rd HR.out.2).mono ?_
 rintro e w2 ⟨hk2,s,aq,kq,cq,q,t,ar,kr,cr,r,rfl,nq,nr,rq,rr,vq,vr⟩
 rw [HX.out] at vq vr
 have HQ:Hid (M.Right s q∧M.Right t r∧M.int s q = Int.tdiv (M.int m a) (M.val d)∧M.int t r = Int.tmod (M.int m a) (M.val d)):=⟨rq,rr,vq,vr⟩
 clear q0 q1 q2 q3 rq rr vq vr
 go_upto_region 5 with fail
 have hK:Kept w2 ((w2.alloc (.cells #[.bool s,.slice aq kq cq] 66)).alloc (.cells #[.bool t,.slice ar kr cr] 66)):=((Kept.refl w2).alloc _).alloc _
 have hY:=box_kept2 (Kept.refl ((w2.alloc (.cells #[.bool s,.slice aq kq cq] 66)).alloc (.cells #[.bool t,.slice ar kr cr] 66)))
 have nq:=nq.kept hK
 have nr:=nr.kept hK
 have rA:=(HRA.out.kept hk2).kept hK
 have hKW:=(HK.out.trans hk2).trans hK
 generalize (w2.alloc (.cells #[.bool s,.slice aq kq cq] 66)).alloc (.cells #[.bool t,.slice ar kr cr] 66) = W at hK hY nq nr rA hKW ⊢
 obtain ⟨hy0,hy1,hy2,hy3⟩:=hY
 obtain ⟨p6,hp6⟩:∃ p,p = w2.heap.size + 1:=⟨_,rfl⟩
 rw [← hp6] at hy2 hy3 ⊢
 obtain ⟨p5,hp5⟩:∃ p,p = w2.heap.size:=⟨_,rfl⟩
 rw [← hp5] at hy0 hy1 ⊢
 have HW:Hid (Kept w W∧Sl W (.slice aq kq cq) q∧Sl W (.slice ar kr cr) r∧RRow W w.heap.size (.bool m) (.slice aoa ka ca) (.bool false) (.slice aob kb cb)):=⟨hKW,nq.sl,nr.sl,rA⟩
 have HY:Hid (W.cell? ⟨p6,0,none⟩ = some (.bool t)∧W.cell? ⟨p6,1,none⟩ = some (.slice ar kr cr)):=⟨hy2,hy3⟩
 clear hK nq nr rA hKW hp6 hp5 hk2 hy2 hy3 HRA
 go_wp2_with fail
 refine (int64_yes s aq kq cq q _ HW.out.2.1 (R.of_right HQ.out.1)).mono ?_
 rintro e w3 ⟨rfl,hk3⟩
 obtain ⟨z,HZ⟩:∃ z,Hid (z = Int.tdiv (M.int m a) (M.val d)):=⟨_,rfl⟩
 rw [HQ.out.2.2.1,← HZ.out]
 have hy2:=cell_kept hk3 HY.out.1
 have hy3:=cell_kept hk3 HY.out.2
 have rA:=HW.out.2.2.2.kept hk3
 have q2:=rA.c2
 have q3:=rA.c3
 have HK3:=hid' hk3
 clear hk3 hy0 hy1 rA
 have hi1:-9223372036854775808≤i64r z∧i64r z≤9223372036854775807:=by unfold i64r; split <;> omega
 obtain ⟨v,HV⟩:∃ v,Hid (v = i64r z):=⟨_,rfl⟩
 obtain ⟨er,HE⟩:∃ v,Hid (v = i64e z):=⟨_,rfl⟩
 rw [← HV.out] at hi1
 rw [← HV.out,← HE.out]
 have HI:=hid' hi1
 clear hi1
 go_wp2_with fail
 refine (beyondHalf_r t ar aob kr cr kb cb r d _ (HW.out.2.2.1.kept HK3.out) (HA.out.2.kept (HW.out.1.trans HK3.out)) (R.of_right HQ.out.2.1) HR.out.1.rd (by rw [← M.natAbs_int t r,HQ.out.2.2.2,Int.natAbs_tmod,Int.natAbs_natCast]; exact Nat.le_of_lt (Nat.mod_lt _ HR.out.1.vpos))).mono ?_
 rintro e w4 ⟨rfl,hk4⟩
 have hy2:=cell_kept hk4 hy2
 have hy3:=cell_kept hk4 hy3
 have HK4:Hid (Kept w w4):=(HW.out.1.trans HK3.out).trans hk4
 have HK34:Hid (Kept W w4):=HK3.out.trans hk4
 clear hk4 q2 q3
 rw [show ((M.val r:Nat):Int) = ((Int.tmod (M.int m a) (M.val d)).natAbs:Int) by rw [← HQ.out.2.2.2,M.natAbs_int]]
 -- ways
 obtain ⟨hf,HF⟩:∃ x,Hid (x = isgn (Int.tmod (M.int m a) (M.val d)).natAbs ((M.val d:Int) - (Int.tmod (M.int m a) (M.val d)).natAbs)):=⟨_,rfl⟩
 rw [← HF.out]
 by_cases hz:-9223372036854775808≤z∧z≤9223372036854775807
 ·
  obtain rfl:v = z:=by rw [HV.out]; unfold i64r; rw [if_pos hz]
  obtain rfl:er = 0:=by rw [HE.out]; unfold i64e; rw [if_pos hz]
  clear HV HE
  obtain ⟨z,hzz⟩:∃ z,z = v:=⟨_,rfl⟩
  subst hzz
  have HI:=hid' hz
  clear hz
  rcases sgn_three HF.out with rfl | rfl | rfl
  ·
   go_wp2_with fail
   refine (onGrid_r _ _).mono ?_
   rintro e w6 ⟨rfl,hk6⟩
   have HK6:Hid (Kept w w6):=HK4.out.trans hk6
   clear hk6
   by_cases hg:-1000000000000000000≤z∧z≤1000000000000000000
   ·
    rw [decide_eq_true hg]
    have HGG:=hid' hg
    clear hg
    go_wp2
    refine bodyPost_ret (v:=.tuple #[.int .i64 z,.int .i64 0]) (by simp [results,Tryz.results45,go_sem]) rfl ⟨?_,HK6.out⟩
    rw [near_stay (h:=HF.out) (.inl rfl) HZ.out]
    exact ret_grid HGG.out rfl
   ·
    rw [decide_eq_false hg]
    have HGG:=hid' hg
    clear hg
    go_wp2
    refine bodyPost_ret (v:=.tuple #[.int .i64 0,.int .i64 4]) (by simp [results,Tryz.results45,go_sem]) rfl ⟨?_,HK6.out⟩
    rw [near_stay (h:=HF.out) (.inl rfl) HZ.out]
    exact ret_off HGG.out
  ·
   by_cases ho:z % 2 = 0
   ·
    have HO:=hid' ho
    have hm:(Int.tmod z 2 != 0) = false:=by rw [even_tmod.2 ho]; rfl
    clear ho
    go_wp2_with fail
    refine (onGrid_r _ _).mono ?_
    rintro e w6 ⟨rfl,hk6⟩
    have HK6:Hid (Kept w w6):=HK4.out.trans hk6
    clear hk6
    by_cases hg:-1000000000000000000≤z∧z≤1000000000000000000
    ·
     rw [decide_eq_true hg]
     have HGG:=hid' hg
     clear hg
     go_wp2
     refine bodyPost_ret (v:=.tuple #[.int .i64 z,.int .i64 0]) (by simp [results,Tryz.results45,go_sem]) rfl ⟨?_,HK6.out⟩
     rw [near_stay (h:=HF.out) (.inr ⟨rfl,HO.out⟩) HZ.out]
     exact ret_grid HGG.out rfl
    ·
     rw [decide_eq_false hg]
     have HGG:=hid' hg
     clear hg
     go_wp2
     refine bodyPost_ret (v:=.tuple #[.int .i64 0,.int .i64 4]) (by simp [results,Tryz.results45,go_sem]) rfl ⟨?_,HK6.out⟩
     rw [near_stay (h:=HF.out) (.inr ⟨rfl,HO.out⟩) HZ.out]
     exact ret_off HGG.out
   ·
    have HO:=hid' ho
    have hm:(Int.tmod z 2 != 0) = true:=by rw [bne_iff_ne]; exact fun h => ho (even_tmod.1 h)
    clear ho
    go_wp2_with fail
    refine (sign_any t ar kr cr r _ (HW.out.2.2.1.kept HK34.out) (R.of_right HQ.out.2.1)).mono ?_
    rw [HQ.out.2.2.2]
    rintro e w5 ⟨rfl,hk5⟩
    have HK5:Hid (Kept w w5):=HK4.out.trans hk5
    obtain ⟨sg,HSG⟩:∃ x,Hid (x = isgn (Int.tmod (M.int m a) (M.val d)) 0):=⟨_,rfl⟩
    rw [← HSG.out]
    have hsg:-1≤sg∧sg≤1:=by rw [HSG.out]; exact sgn_small' _
    have HSB:=hid' hsg
    clear hsg hk5
    go_wp2_with fail
    refine (onGrid_r _ _).mono ?_
    rintro e w6 ⟨rfl,hk6⟩
    have HK6:Hid (Kept w w6):=HK5.out.trans hk6
    clear hk6
    by_cases hg:-1000000000000000000≤(wrap64 (z + sg))∧(wrap64 (z + sg))≤1000000000000000000
    ·
     rw [decide_eq_true hg]
     have HGG:=hid' hg
     clear hg
     go_wp2
     refine bodyPost_ret (v:=.tuple #[.int .i64 (wrap64 (z + sg)),.int .i64 0]) (by simp [results,Tryz.results45,go_sem]) rfl ⟨?_,HK6.out⟩
     rw [near_step (h:=HF.out) (.inr ⟨rfl,HO.out⟩) HZ.out HSG.out]
     exact ret_grid (wrap_in HI.out HSB.out HGG.out).1 (wrap_in HI.out HSB.out HGG.out).2
    ·
     rw [decide_eq_false hg]
     have HGG:=hid' hg
     clear hg
     go_wp2
     refine bodyPost_ret (v:=.tuple #[.int .i64 0,.int .i64 4]) (by simp [results,Tryz.results45,go_sem]) rfl ⟨?_,HK6.out⟩
     rw [near_step (h:=HF.out) (.inr ⟨rfl,HO.out⟩) HZ.out HSG.out]
     exact ret_off (wrap_out HI.out HSB.out HGG.out)
  ·
   go_wp2_with fail
   refine (sign_any t ar kr cr r _ (HW.out.2.2.1.kept HK34.out) (R.of_right HQ.out.2.1)).mono ?_
   rw [HQ.out.2.2.2]
   rintro e w5 ⟨rfl,hk5⟩
   have HK5:Hid (Kept w w5):=HK4.out.trans hk5
   obtain ⟨sg,HSG⟩:∃ x,Hid (x = isgn (Int.tmod (M.int m a) (M.val d)) 0):=⟨_,rfl⟩
   rw [← HSG.out]
   have hsg:-1≤sg∧sg≤1:=by rw [HSG.out]; exact sgn_small' _
   have HSB:=hid' hsg
   clear hsg hk5
   go_wp2_with fail
   refine (onGrid_r _ _).mono ?_
   rintro e w6 ⟨rfl,hk6⟩
   have HK6:Hid (Kept w w6):=HK5.out.trans hk6
   clear hk6
   by_cases hg:-1000000000000000000≤(wrap64 (z + sg))∧(wrap64 (z + sg))≤1000000000000000000
   ·
    rw [decide_eq_true hg]
    have HGG:=hid' hg
    clear hg
    go_wp2
    refine bodyPost_ret (v:=.tuple #[.int .i64 (wrap64 (z + sg)),.int .i64 0]) (by simp [results,Tryz.results45,go_sem]) rfl ⟨?_,HK6.out⟩
    rw [near_step (h:=HF.out) (.inl rfl) HZ.out HSG.out]
    exact ret_grid (wrap_in HI.out HSB.out HGG.out).1 (wrap_in HI.out HSB.out HGG.out).2
   ·
    rw [decide_eq_false hg]
    have HGG:=hid' hg
    clear hg
    go_wp2
    refine bodyPost_ret (v:=.tuple #[.int .i64 0,.int .i64 4]) (by simp [results,Tryz.results45,go_sem]) rfl ⟨?_,HK6.out⟩
    rw [near_step (h:=HF.out) (.inl rfl) HZ.out HSG.out]
    exact ret_off (wrap_out HI.out HSB.out HGG.out)
 ·
  obtain rfl:v = 0:=by rw [HV.out]; unfold i64r; rw [if_neg hz]
  obtain rfl:er = 4:=by rw [HE.out]; unfold i64e; rw [if_neg hz]
  clear HV HE
  have HB:=hid' hz
  clear hz
  rcases sgn_three HF.out with rfl | rfl | rfl
  ·
   go_wp2_with fail
   go_wp2
   refine bodyPost_ret (v:=.tuple #[.int .i64 0,.int .i64 4]) (by simp [results,Tryz.results45,go_sem]) rfl ⟨?_,HK4.out⟩
   rw [near_stay (h:=HF.out) (.inl rfl) HZ.out]
   exact ret_off (off_far0 HB.out)
  ·
   by_cases ho:z % 2 = 0
   ·
    have HO:=hid' ho
    go_wp2_with fail
    go_wp2
    refine bodyPost_ret (v:=.tuple #[.int .i64 0,.int .i64 4]) (by simp [results,Tryz.results45,go_sem]) rfl ⟨?_,HK4.out⟩
    rw [near_stay (h:=HF.out) (.inr ⟨rfl,HO.out⟩) HZ.out]
    exact ret_off (off_far0 HB.out)
   ·
    have HO:=hid' ho
    go_wp2_with fail
    go_wp2
    refine bodyPost_ret (v:=.tuple #[.int .i64 0,.int .i64 4]) (by simp [results,Tryz.results45,go_sem]) rfl ⟨?_,HK4.out⟩
    rw [near_step (h:=HF.out) (.inr ⟨rfl,HO.out⟩) HZ.out rfl]
    exact ret_off (off_far HB.out (sgn_small' _))
  ·
   go_wp2_with fail
   refine (sign_any t ar kr cr r _ (HW.out.2.2.1.kept HK34.out) (R.of_right HQ.out.2.1)).mono ?_
   rw [HQ.out.2.2.2]
   rintro e w5 ⟨rfl,hk5⟩
   have HK5:Hid (Kept w w5):=HK4.out.trans hk5
   obtain ⟨sg,HSG⟩:∃ x,Hid (x = isgn (Int.tmod (M.int m a) (M.val d)) 0):=⟨_,rfl⟩
   rw [← HSG.out]
   have hsg:-1≤sg∧sg≤1:=by rw [HSG.out]; exact sgn_small' _
   have HSB:=hid' hsg
   clear hsg hk5
   go_wp2
   refine bodyPost_ret (v:=.tuple #[.int .i64 0,.int .i64 4]) (by simp [results,Tryz.results45,go_sem]) rfl ⟨?_,HK5.out⟩
   rw [near_step (h:=HF.out) (.inl rfl) HZ.out HSG.out]
   exact ret_off (off_far HB.out HSB.out)
end F
end Go.Proofs.YtgofinhnlcbafaaGreat

namespace Go.Proofs.YtgofinhnlcbafaaGreat
open Go.RowKit
namespace F
def IRow (w:World) (p:Nat) (x0 x1:Value):Prop:=w.rowIs p 66 2 (fun i => if i = 0 then x0 else x1)
theorem IRow.alloc (w:World) (x0 x1:Value):IRow (w.alloc (.cells #[x0,x1] 66)) w.heap.size x0 x1 :=
 World.rowIs_alloc w #[x0,x1] 66 _ (fun i hi => by
  match i,hi with
  | 0,_ => rfl
  | 1,_ => rfl)
section
variable {w w':World} {p:Nat} {x0 x1:Value}
theorem IRow.lt (h:IRow w p x0 x1):p < w.heap.size:=World.rowIs.lt h
theorem IRow.c0 (h:IRow w p x0 x1):w.cell? ⟨p,0,none⟩ = some x0:=World.rowIs.cell h (i:=0) (by omega)
theorem IRow.c1 (h:IRow w p x0 x1):w.cell? ⟨p,1,none⟩ = some x1:=World.rowIs.cell h (i:=1) (by omega)
theorem IRow.kept (h:IRow w p x0 x1) (k:Kept w w'):IRow w' p x0 x1:=World.rowIs.of_block h (k.block p h.lt)
end
def RatN (B:Nat) (w:World) (v:Value) (X Y:Int):Prop :=
 ∃ s ao k c l t ap k' c' l',v = .agg #[.bool s,.slice ao k c,.bool t,.slice ap k' c']∧New B w (.slice ao k c) l∧M.Right s l∧M.int s l = X∧New B w (.slice ap k' c') l'∧M.Right t l'∧M.int t l' = Y∧RatR s t l l'
theorem made_low {a b:Nat} {x y g X Y:Int} (hg:g.natAbs = Nat.gcd a b) (ha:x.natAbs = a) (hb:y.natAbs = b) (hx:X * g = x) (hy:Y * g = y) (hy0:y ≠ 0) (hs:g < 0 ↔ y < 0):0 < Y∧Nat.gcd X.natAbs Y.natAbs = 1:=by
 subst ha hb hx hy
 have g0:g ≠ 0:=fun h => hy0 (by rw [h]; simp)
 refine ⟨?_,?_⟩
 ·
  rcases Int.lt_trichotomy Y 0 with h | h | h
  ·
   exfalso
   rcases Int.lt_or_gt_of_ne g0 with h1 | h1
   ·
    have:=Int.mul_pos_of_neg_of_neg h h1
    have:=hs.1 h1
    omega
   ·
    have:=Int.mul_neg_of_neg_of_pos h h1
    have:=hs.2 this
    omega
  ·
   exact absurd (by rw [h]; simp) hy0
  ·
   exact h
 ·
  rw [Int.natAbs_mul,Int.natAbs_mul,Nat.gcd_mul_right] at hg
  have hp:0 < g.natAbs:=by omega
  exact Nat.eq_of_mul_eq_mul_right hp (by omega)
theorem RatIs.right {B:Nat} {w:World} {v:Value} {X Y:Int} (h:RatIs B w v X Y) (h0:0 < Y) (h1:Nat.gcd X.natAbs Y.natAbs = 1):RatN B w v X Y:=by
 obtain ⟨s,ao,k,c,l,t,ap,k',c',l',rfl,n1,r1,v1,n2,r2,v2⟩:=h
 refine ⟨s,ao,k,c,l,t,ap,k',c',l',rfl,n1,r1,v1,n2,r2,v2,R.of_right r1,R.of_right r2,by rw [v2]; exact h0,?_⟩
 rw [← M.natAbs_int s l,← M.natAbs_int t l',v1,v2]; exact h1
theorem Make_ok (m n:Bool) (aoa aob:Option Addr) (ka ca kb cb:Nat) (a b:List Nat) (w:World) (ha:Sl w (.slice aoa ka ca) a) (hb:Sl w (.slice aob kb cb) b) (hra:R m a) (hrb:R n b) (hb0:0 < b.length) :
  Calls Tryz.prog 62 #[.agg #[.bool m,.slice aoa ka ca],.agg #[.bool n,.slice aob kb cb]] w fun e w' => Kept w w'∧∃ v X Y,e = .returned (.tuple #[v,.int .i64 0])∧RatN w.heap.size w' v X Y∧∃ g:Int,g.natAbs = Nat.gcd (M.val a) (M.val b)∧X * g = M.int m a∧Y * g = M.int n b∧(g < 0 ↔ M.int n b < 0):=by
 refine (make_r m n aoa aob ka ca kb cb a b w ha hb hra hrb hb0).mono ?_
 rintro e w' ⟨h1,v,X,Y,rfl,h2,g,h3,h4,h5,h6⟩
 have hp:=M.val_pos hrb.tr (fun e => by rw [e] at hb0; simp at hb0)
 have hl:=made_low h3 (M.natAbs_int m a) (M.natAbs_int n b) h4 h5 (fun h => by rw [← M.natAbs_int n b,h] at hp; simp at hp) h6
 exact ⟨h1,v,X,Y,rfl,h2.right hl.1 hl.2,g,h3,h4,h5,h6⟩
end F
end Go.Proofs.YtgofinhnlcbafaaGreat

namespace Go.Proofs.YtgofinhnlcbafaaGreat
open Go.RowKit
namespace D
theorem small_num (x:Int) (w:World) (h0:0≤x) (h1:x < 65536) :
  Calls Tryz.prog 70 #[.int .i64 x] w fun e w' => Kept w w'∧∃ ao n cap,e = .returned (.agg #[.bool false,.slice ao n cap])∧NIs w' false (.slice ao n cap) x∧n≤1:=by
 obtain ⟨v,rfl⟩:=Int.eq_ofNat_of_zero_le h0
 refine (small_any v w (by omega)).mono ?_
 rintro e w' ⟨hk,ao,n,cap,l,rfl,hs,ht,hv,hl⟩
 exact ⟨hk,ao,n,cap,rfl,⟨l,hs,⟨hs.bd,ht,fun _ => rfl⟩,by simp [int,hv]⟩,by rw [hs.len]; exact hl⟩
end D
namespace F
end F
end Go.Proofs.YtgofinhnlcbafaaGreat

namespace Go.Proofs.YtgofinhnlcbafaaGreat
open Go.RowKit
namespace F
end F
end Go.Proofs.YtgofinhnlcbafaaGreat

namespace Go.Proofs.YtgofinhnlcbafaaGreat
open Go.RowKit
namespace F
def Ok (w V:World) (v:Value) (l:List Nat):Prop:=Sl w v l ∨ New w.heap.size V v l
section
variable {w V V':World} {v:Value} {l:List Nat}
theorem Ok.sl (h:Ok w V v l) (k:Kept w V):Sl V v l:=h.elim (fun h => h.kept k) (fun h => h.sl)
theorem Ok.kept (h:Ok w V v l) (k:Kept V V'):Ok w V' v l:=h.elim .inl (fun h => .inr (h.kept k))
end
theorem RRow.set {w:World} {p:Nat} {x0 x1 x2 x3:Value} (h:RRow w p x0 x1 x2 x3) (y0 y1 y2 y3:Value):RRow ((((w.setCell ⟨p,0,none⟩ y0).setCell ⟨p,1,none⟩ y1).setCell ⟨p,2,none⟩ y2).setCell ⟨p,3,none⟩ y3) p y0 y1 y2 y3 :=
 World.rowIs.congr (World.rowIs.set (World.rowIs.set (World.rowIs.set (World.rowIs.set h 0 y0) 1 y1) 2 y2) 3 y3) (fun i hi => by
  match i,hi with
  | 0,_ => simp
  | 1,_ => simp
  | 2,_ => simp
  | 3,_ => simp)
theorem RRow.far {w:World} {p q:Nat} {x0 x1 x2 x3:Value} (h:RRow w p x0 x1 x2 x3) (hne:p ≠ q) (y0 y1 y2 y3:Value):RRow ((((w.setCell ⟨q,0,none⟩ y0).setCell ⟨q,1,none⟩ y1).setCell ⟨q,2,none⟩ y2).setCell ⟨q,3,none⟩ y3) p x0 x1 x2 x3 :=
 World.rowIs.setOther (World.rowIs.setOther (World.rowIs.setOther (World.rowIs.setOther h hne _) hne _) hne _) hne _
def rdd (w:World) (p:Nat):Nat:=match w.cell? ⟨p,3,none⟩ with | some v => rdv w v | none => 0
end F
end Go.Proofs.YtgofinhnlcbafaaGreat

namespace Go.Proofs.YtgofinhnlcbafaaGreat
open Go.RowKit
namespace F
def AtHead (w wr:World) (T:Int) (ao1 ao2 ao3 ao4:Option Addr) (k1 c1 k2 c2 k3 c3 k4 c4:Nat) (x y u v:List Nat):Prop :=
 Kept w wr∧RRow wr w.heap.size (.bool false) (.slice ao1 k1 c1) (.bool false) (.slice ao2 k2 c2)∧RRow wr (w.heap.size + 1) (.bool false) (.slice ao3 k3 c3) (.bool false) (.slice ao4 k4 c4) ∧
 Ok w wr (.slice ao1 k1 c1) x∧Ok w wr (.slice ao2 k2 c2) y∧Ok w wr (.slice ao3 k3 c3) u∧Ok w wr (.slice ao4 k4 c4) v∧R false x∧R false y∧R false u∧R false v∧0 < M.val y∧0 < M.val v ∧
 isgn ((M.val x * M.val v:Nat):Int) ((M.val u * M.val y:Nat):Int) = T
def next8 (V:World) (p2 p3:Nat) (ao4 ar2 ao2 ar1:Option Addr) (k4 c4 kr2 cr2 k2 c2 kr1 cr1:Nat):World :=
 ((((((((V.setCell ⟨p2,0,none⟩ (.bool false)).setCell ⟨p2,1,none⟩ (.slice ao4 k4 c4)).setCell ⟨p2,2,none⟩ (.bool false)).setCell ⟨p2,3,none⟩ (.slice ar2 kr2 cr2)).setCell ⟨p3,0,none⟩ (.bool false)).setCell ⟨p3,1,none⟩ (.slice ao2 k2 c2)).setCell ⟨p3,2,none⟩ (.bool false)).setCell ⟨p3,3,none⟩ (.slice ar1 kr1 cr1)).drew
theorem Kept.set4 {a b:World} {p:Nat} (h:Kept a b) (hp:a.heap.size≤p) (x0 x1 x2 x3:Value):Kept a ((((b.setCell ⟨p,0,none⟩ x0).setCell ⟨p,1,none⟩ x1).setCell ⟨p,2,none⟩ x2).setCell ⟨p,3,none⟩ x3) :=
 (((h.setCell (p:=⟨p,0,none⟩) hp x0).setCell (p:=⟨p,1,none⟩) hp x1).setCell (p:=⟨p,2,none⟩) hp x2).setCell (p:=⟨p,3,none⟩) hp x3
end F
end Go.Proofs.YtgofinhnlcbafaaGreat

namespace Go.Proofs.YtgofinhnlcbafaaGreat
open Go.RowKit
namespace F
end F
end Go.Proofs.YtgofinhnlcbafaaGreat
