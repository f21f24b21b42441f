/- num.whole. num.tenTo. num.scaled. num.scaled: the walk. -/
import Derived.Test.YtgofinhnlcbafaaGreatGan
import Derived.Test.YtgofinhnlcbafaaGreatGau
namespace Go.Proofs.YtgofinhnlcbafaaGreat
open Go.RowKit
namespace Q
def RQ (B:Nat) (w:World) (v:Value) (N:Int) (D:Nat):Prop :=
 ∃ (s:Bool) (ao ap:Option Addr) (k c k' c':Nat) (l l':List Nat),v = .agg #[.bool s,.slice ao k c,.bool false,.slice ap k' c']∧New B w (.slice ao k c) l∧New B w (.slice ap k' c') l'∧F.RatR s false l l'∧M.int s l = N∧M.val l' = D
theorem new_one (w:World) (x:Nat) (hx:x < 4294967296):New w.heap.size (w.alloc (.cells #[.int .u32 (x:Int)] 88)) (.slice (some ⟨w.heap.size,0,none⟩) 1 1) [x]:=by
 refine ⟨fun y hy => by simp at hy; omega,.inr ⟨w.heap.size,1,fun _ => .int .u32 (x:Int),rfl,Nat.le_refl _,Nat.le_refl _,World.rowIs_alloc w #[.int .u32 (x:Int)] 88 _ (fun i hi => by
  match i,hi with
  | 0,_ => rfl),fun j hj => ?_⟩⟩
 match j,hj with
 | 0,_ => rfl
theorem ratR_one (s:Bool) (x:Nat) (h0:0 < x):F.RatR s false [x] [1] :=
 ⟨⟨by simp,by simp,by simp; omega⟩,⟨by simp,by simp,by simp⟩,by decide,by show Nat.gcd (x + 4294967296 * 0) (1 + 4294967296 * 0) = 1; simp⟩
theorem ratR_nil:F.RatR false false [] [1] :=
 ⟨⟨by simp,by simp,by simp⟩,⟨by simp,by simp,by simp⟩,by decide,by decide⟩
theorem rq_one (w:World) (A C:Obj) (s:Bool) (x:Nat) (n:Int) (h0:0 < x) (hx:x < 4294967296) (hn:n = if s = true then -(x:Int) else (x:Int)) :
  RQ w.heap.size ((((w.alloc A).alloc (.cells #[.int .u32 1] 88)).alloc C).alloc (.cells #[.int .u32 (x:Int)] 88)) (.agg #[.bool s,.slice (some ⟨w.heap.size + 1 + 1 + 1,0,none⟩) 1 1,.bool false,.slice (some ⟨w.heap.size + 1,0,none⟩) 1 1]) n 1:=by
 have h1:=(new_one (w.alloc A) 1 (by decide)).kept (((Kept.refl _).alloc C).alloc (.cells #[.int .u32 (x:Int)] 88))
 have h2:=new_one (((w.alloc A).alloc (.cells #[.int .u32 1] 88)).alloc C) x hx
 simp only [World.size_alloc] at h1 h2
 refine ⟨s,_,_,1,1,1,1,[x],[1],rfl,h2.mono (by omega),h1.mono (by omega),ratR_one s x h0,?_,rfl⟩
 rw [hn]
 show (if s = true then -((x + 4294967296 * 0:Nat):Int) else ((x + 4294967296 * 0:Nat):Int)) = _
 simp
set_option maxRecDepth 100000 in
set_option maxHeartbeats 8000000 in
theorem whole_any (n:Int) (h1:-4294967296 < n) (h2:n < 4294967296) (w:World) :
  Calls Tryz.prog 83 #[.int .i64 n] w fun e w' => Kept w w'∧∃ v,e = .returned v∧RQ w.heap.size w' v n 1:=by
 go_enter Tryz.func83,Tryz.ntmps83
 by_cases h0:n = 0
 ·
  subst h0
  go_wp2_with fail
  refine bodyPost_ret (v:=.agg #[.bool false,.slice none 0 0,.bool false,.slice (some ⟨w.heap.size + 1,0,none⟩) 1 1]) (by simp [results,Tryz.results83,go_sem]) rfl ⟨(((Kept.refl w).alloc _).alloc _).alloc _,_,rfl,false,none,_,0,0,1,1,[],[1],rfl,⟨by intro x hx; simp at hx,.inl ⟨rfl,rfl⟩⟩,?_,ratR_nil,rfl,rfl⟩
  have h1:=(new_one (w.alloc (.cells #[.bool false,.slice none 0 0,.bool false,.slice (some ⟨w.heap.size + 1,0,none⟩) 1 1] 68)) 1 (by decide)).kept ((Kept.refl _).alloc (.cells #[.bool false,.slice none 0 0,.bool false,.slice (some ⟨w.heap.size + 1,0,none⟩) 1 1] 68))
  simp only [World.size_alloc] at h1
  exact h1.mono (by omega)
 ·
  have hb:(n == 0) = false:=by simpa using h0
  by_cases hn:n < 0
  ·
   have hm:max n (-n) = -n:=by omega
   obtain ⟨x,hx⟩:∃ x:Nat,-n = (x:Int):=⟨(-n).toNat,by omega⟩
   have HX:=hid' hx
   clear hx
   go_wp2_with fail
   refine bodyPost_ret (v:=.agg #[.bool true,.slice (some ⟨w.heap.size + 1 + 1 + 1,0,none⟩) 1 1,.bool false,.slice (some ⟨w.heap.size + 1,0,none⟩) 1 1]) (by simp [results,Tryz.results83,go_sem]) rfl ⟨((((Kept.refl w).alloc _).alloc _).alloc _).alloc _,_,rfl,?_⟩
   rw [HX.out]
   exact rq_one w _ _ true x n (by have:=HX.out; omega) (by have:=HX.out; omega) (by have:=HX.out; simp; omega)
  ·
   have hm:max n (-n) = n:=by omega
   obtain ⟨x,hx⟩:∃ x:Nat,n = (x:Int):=⟨n.toNat,by omega⟩
   have HX:=hid' hx
   clear hx
   go_wp2_with fail
   refine bodyPost_ret (v:=.agg #[.bool false,.slice (some ⟨w.heap.size + 1 + 1 + 1,0,none⟩) 1 1,.bool false,.slice (some ⟨w.heap.size + 1,0,none⟩) 1 1]) (by simp [results,Tryz.results83,go_sem]) rfl ⟨((((Kept.refl w).alloc _).alloc _).alloc _).alloc _,_,rfl,?_⟩
   have e:=HX.out
   clear HX
   subst e
   exact rq_one w _ _ false x _ (by omega) (by omega) (by simp)
end Q
end Go.Proofs.YtgofinhnlcbafaaGreat

namespace Go.Proofs.YtgofinhnlcbafaaGreat
open Go.RowKit
namespace Q
def put4 (w:World) (p:Nat) (x0 x1 x2 x3:Value):World:=(((w.setCell ⟨p,0,none⟩ x0).setCell ⟨p,1,none⟩ x1).setCell ⟨p,2,none⟩ x2).setCell ⟨p,3,none⟩ x3
theorem Kept.put4 {a b:World} {p:Nat} (h:Kept a b) (hp:a.heap.size≤p) (x0 x1 x2 x3:Value):Kept a (put4 b p x0 x1 x2 x3):=(((h.setCell hp x0).setCell hp x1).setCell hp x2).setCell hp x3
theorem New.put4 {B p:Nat} {w:World} {v:Value} {l:List Nat} {t:TypeId} {y0 y1 y2 y3:Value} (h:New B w v l) (hr:w.rowIs p t 4 (fun i => if i = 0 then y0 else if i = 1 then y1 else if i = 2 then y2 else y3)) (ht:¬ t = 88) (x0 x1 x2 x3:Value):New B (Q.put4 w p x0 x1 x2 x3) v l:=by
 obtain ⟨hb,⟨rfl,rfl⟩ | ⟨b,N,f,rfl,h1,h2,h3,h4⟩⟩:=h
 ·
  exact ⟨hb,.inl ⟨rfl,rfl⟩⟩
 ·
  refine ⟨hb,.inr ⟨b,N,f,rfl,h1,h2,?_,h4⟩⟩
  have hne:¬ b = p:=by
   intro e; subst e
   obtain ⟨c,hc,_⟩:=h3
   obtain ⟨c',hc',_⟩:=hr
   rw [hc] at hc'
   simp at hc'
   exact ht hc'.2.symm
  unfold Q.put4
  exact World.rowIs.setOther (World.rowIs.setOther (World.rowIs.setOther (World.rowIs.setOther h3 hne x0) hne x1) hne x2) hne x3
set_option maxRecDepth 100000 in
set_option maxHeartbeats 8000000 in
theorem tenTo_any (x:Int) (h1:-9≤x) (h2:x≤9) (w:World) :
  Calls Tryz.prog 84 #[.int .i64 x] w fun e w' => Kept w w'∧∃ v,e = .returned v∧RQ w.heap.size w' v ((10 ^ x.toNat:Nat):Int) (10 ^ (-x).toNat):=by
 obtain ⟨nn,hnn⟩:∃ n:Nat,max x (-x) = (n:Int):=⟨(max x (-x)).toNat,by omega⟩
 have hnn9:nn≤9:=by omega
 have HNN:=hid' hnn
 go_enter Tryz.func84,Tryz.ntmps84
 go_upto_region 1 with fail
 have hK:=(Kept.refl w).alloc (.cells #[.bool false,.slice none 0 0,.bool false,.slice none 0 0] 68)
 have hR:=F.RRow.alloc w (.bool false) (.slice none 0 0) (.bool false) (.slice none 0 0)
 generalize w.alloc (.cells #[.bool false,.slice none 0 0,.bool false,.slice none 0 0] 68) = W at hK hR ⊢
 obtain ⟨p2,hp2⟩:∃ p,p = w.heap.size:=⟨_,rfl⟩
 rw [← hp2] at hR ⊢
 have HP:Hid (w.heap.size≤p2):=by show _≤_; omega
 have HK:=hid' hK
 have HR:=hid' hR
 clear hp2 hK hR
 go_wp2_with fail
 go_loopw [3,9] (fun vp vi wr => ∃ j:Nat,j≤nn∧vi = .int .i64 (j:Int)∧vp = .int .i64 ((10 ^ j:Nat):Int)∧wr = W) (fun _ vi _ => nn - (intOf vi).toNat)
 case atStart => exact ⟨0,Nat.zero_le _,rfl,rfl,rfl⟩
 case round =>
  obtain ⟨j,hj,rfl,rfl,hw⟩:=hrel
  subst hw
  by_cases hlt:j < nn
  ·
   have hji:(j:Int) < (nn:Int):=by omega
   have hpw:10 ^ j≤100000000:=Nat.pow_le_pow_right (n:=10) (j:=8) (by decide) (by omega)
   have hps:10 ^ (j + 1) = 10 ^ j * 10:=Nat.pow_succ ..
   have HPS:=hid' hps
   clear hps
   obtain ⟨pw,hpe⟩:∃ p,p = 10 ^ j:=⟨_,rfl⟩
   rw [← hpe] at hpw HPS ⊢
   clear hpe
   go_wp2_with fail
   go_roundw
   case rel => exact ⟨j + 1,by omega,by go_num,by rw [HPS.out]; push_cast; rfl,trivial⟩
   case measure => show nn - ((j:Int) + 1).toNat < nn - (j:Int).toNat; omega
  ·
   obtain rfl:j = nn:=by omega
   have hji:¬ (j:Int) < (j:Int):=by omega
   have hpw:10 ^ j≤1000000000:=Nat.pow_le_pow_right (n:=10) (j:=9) (by decide) (by omega)
   have hp0:0 < 10 ^ j:=Nat.pow_pos (by decide)
   obtain ⟨pw,hpe⟩:∃ p,p = 10 ^ j:=⟨_,rfl⟩
   rw [← hpe] at hpw hp0 ⊢
   have HPE:=hid' hpe
   clear hpe
   go_wp2_with fail
   refine (whole_any (pw:Int) (by omega) (by omega) _).mono ?_
   rintro e w1 ⟨hk1,v,rfl,s,ao,ap,k,c,k',c',l,l',rfl,n1,n2,hr,hi,hv⟩
   have hs:s = false:=by
    cases s
    ·
     rfl
    ·
     exfalso
     have e1:M.int true l = -(M.val l:Int):=rfl
     rw [e1] at hi; omega
   subst hs
   have hi':M.val l = pw:=by
    have e1:M.int false l = (M.val l:Int):=rfl
    rw [e1] at hi; omega
   have H1:=hid' (And.intro n1 (And.intro n2 (And.intro hr (And.intro hi' hv))))
   have HK1:=hid' hk1
   have Hq:∀ X,F.RRow (w1.alloc X) p2 (.bool false) (.slice none 0 0) (.bool false) (.slice none 0 0):=fun X => HR.out.kept (HK1.out.alloc X)
   have q0:∀ X,(w1.alloc X).cell? ⟨p2,0,none⟩ = some (.bool false):=fun X => (Hq X).c0
   have q1:∀ X,(w1.alloc X).cell? ⟨p2,1,none⟩ = some (.slice none 0 0):=fun X => (Hq X).c1
   have q2:∀ X,(w1.alloc X).cell? ⟨p2,2,none⟩ = some (.bool false):=fun X => (Hq X).c2
   have q3:∀ X,(w1.alloc X).cell? ⟨p2,3,none⟩ = some (.slice none 0 0):=fun X => (Hq X).c3
   have f0:∀ X,(w1.alloc X).frozen? ⟨p2,0,none⟩ = false:=fun X => (Hq X).fz 0
   have f1:∀ X,(w1.alloc X).frozen? ⟨p2,1,none⟩ = false:=fun X => (Hq X).fz 1
   have f2:∀ X,(w1.alloc X).frozen? ⟨p2,2,none⟩ = false:=fun X => (Hq X).fz 2
   have f3:∀ X,(w1.alloc X).frozen? ⟨p2,3,none⟩ = false:=fun X => (Hq X).fz 3
   have HQ:=hid' Hq
   clear n1 n2 hr hi hv hi' hk1 Hq
   by_cases hx:x < 0
   ·
    have hx2:x.toNat = 0∧(-x).toNat = j:=by have:=HNN.out; omega
    have HX:=hid' hx2
    clear hx2
    go_wp2_with fail
    refine bodyPost_ret (v:=.agg #[.bool false,.slice ap k' c',.bool false,.slice ao k c]) (by simp [results,Tryz.results84,go_sem,q0,q1,q2,q3]) rfl ⟨Kept.put4 ((HK.out.trans HK1.out).alloc _) HP.out _ _ _ _,_,rfl,false,ap,ao,k',c',k,c,l',l,rfl,?_,?_,?_,?_,?_⟩
    ·
     exact New.put4 (((H1.out.2.1).kept ((Kept.refl w1).alloc _)).mono HK.out.size) (HQ.out _) (by decide) _ _ _ _
    ·
     exact New.put4 (((H1.out.1).kept ((Kept.refl w1).alloc _)).mono HK.out.size) (HQ.out _) (by decide) _ _ _ _
    ·
     have e1:M.int false l = (M.val l:Int):=rfl
     exact ⟨H1.out.2.2.1.rd,H1.out.2.2.1.ra,by rw [e1,H1.out.2.2.2.1]; omega,by rw [H1.out.2.2.2.2]; exact Nat.gcd_one_left _⟩
    ·
     show (M.val l':Int) = _
     rw [H1.out.2.2.2.2,HX.out.1]
    ·
     rw [H1.out.2.2.2.1,HPE.out,HX.out.2]
   ·
    have hx2:x.toNat = j∧(-x).toNat = 0:=by have:=HNN.out; omega
    have HX:=hid' hx2
    clear hx2
    go_wp2_with fail
    refine bodyPost_ret (v:=.agg #[.bool false,.slice ao k c,.bool false,.slice ap k' c']) (by simp [results,Tryz.results84,go_sem,q0,q1,q2,q3]) rfl ⟨Kept.put4 ((HK.out.trans HK1.out).alloc _) HP.out _ _ _ _,_,rfl,false,ao,ap,k,c,k',c',l,l',rfl,?_,?_,H1.out.2.2.1,?_,?_⟩
    ·
     exact New.put4 (((H1.out.1).kept ((Kept.refl w1).alloc _)).mono HK.out.size) (HQ.out _) (by decide) _ _ _ _
    ·
     exact New.put4 (((H1.out.2.1).kept ((Kept.refl w1).alloc _)).mono HK.out.size) (HQ.out _) (by decide) _ _ _ _
    ·
     show (M.val l:Int) = _
     rw [H1.out.2.2.2.1,HPE.out,HX.out.1]
    ·
     rw [H1.out.2.2.2.2,HX.out.2]
end Q
end Go.Proofs.YtgofinhnlcbafaaGreat

namespace Go.Proofs.YtgofinhnlcbafaaGreat
open Go.RowKit
namespace Q
theorem RQ.of {B:Nat} {w:World} {v:Value} {N:Int} {D:Nat} (h:F.RatIs B w v N D) (hp:0 < D) (hl:Nat.Coprime N.natAbs D):RQ B w v N D:=by
 obtain ⟨s,ao,k,c,l,t,ap,k',c',l',rfl,n1,r1,i1,n2,r2,i2⟩:=h
 have ht:t = false:=by
  cases t
  ·
   rfl
  ·
   exfalso
   have e1:M.int true l' = -(M.val l':Int):=rfl
   rw [e1] at i2; omega
 subst ht
 have e1:M.int false l' = (M.val l':Int):=rfl
 refine ⟨s,ao,ap,k,c,k',c',l,l',rfl,n1,n2,⟨R.of_right r1,R.of_right r2,by rw [i2]; omega,?_⟩,i1,by rw [e1] at i2; omega⟩
 have h3:M.val l' = D:=by rw [e1] at i2; omega
 rw [← M.natAbs_int s l,i1,h3]; exact hl
theorem RQ.kept {B:Nat} {w w':World} {v:Value} {N:Int} {D:Nat} (h:RQ B w v N D) (k:Kept w w'):RQ B w' v N D:=by
 obtain ⟨s,ao,ap,k1,c,k',c',l,l',rfl,n1,n2,r⟩:=h
 exact ⟨s,ao,ap,k1,c,k',c',l,l',rfl,n1.kept k,n2.kept k,r⟩
theorem RQ.mono {B B':Nat} {w:World} {v:Value} {N:Int} {D:Nat} (h:RQ B w v N D) (k:B'≤B):RQ B' w v N D:=by
 obtain ⟨s,ao,ap,k1,c,k',c',l,l',rfl,n1,n2,r⟩:=h
 exact ⟨s,ao,ap,k1,c,k',c',l,l',rfl,n1.mono k,n2.mono k,r⟩
theorem RQ.low {B:Nat} {w:World} {v:Value} {N:Int} {D:Nat} (h:RQ B w v N D):0 < D∧Nat.Coprime N.natAbs D:=by
 obtain ⟨s,ao,ap,k1,c,k',c',l,l',rfl,n1,n2,r,rfl,rfl⟩:=h
 exact ⟨r.vpos,by rw [M.natAbs_int]; exact r.low⟩
theorem prod_bd {xA:Int} {yA:Nat} {xB:Int} {yB:Nat} {N:Int} {D:Nat} (h:F.IsProd xA yA xB yB N D) (hA:0 < yA) (hB:0 < yB):N.natAbs≤(xA * xB).natAbs∧D≤yA * yB:=by
 have e:=congrArg Int.natAbs h.eq
 rw [Int.natAbs_mul,Int.natAbs_mul (xA * xB)] at e
 have e2:((yA:Int) * yB).natAbs = yA * yB:=by rw [← Int.natCast_mul]; rfl
 rw [e2,Int.natAbs_natCast] at e
 constructor
 ·
  have hd:N.natAbs ∣ (xA * xB).natAbs:=(h.low.dvd_of_dvd_mul_right (by rw [← e]; exact Nat.dvd_mul_right _ _))
  rcases Nat.eq_zero_or_pos (xA * xB).natAbs with h0 | h0
  ·
   rw [h0,Nat.zero_mul] at e
   rcases Nat.mul_eq_zero.1 e with h1 | h1
   ·
    omega
   ·
    have:=Nat.mul_pos hA hB; omega
  ·
   exact Nat.le_of_dvd h0 hd
 ·
  have hd:D ∣ yA * yB:=(h.low.symm.dvd_of_dvd_mul_left (by rw [e]; exact Nat.dvd_mul_left _ _))
  exact Nat.le_of_dvd (Nat.mul_pos hA hB) hd
theorem mul_small {v v':Value} {N N':Int} {D D':Nat} {B B':Nat} (w:World) (h:RQ B w v N D) (h':RQ B' w v' N' D') (hN:(N * N').natAbs≤10 ^ 60) (hD:D * D'≤10 ^ 60) :
  Calls Tryz.prog 42 #[v,v'] w fun e w' => Kept w w'∧∃ u X Y,e = .returned (.tuple #[u,.int .i64 0])∧RQ w.heap.size w' u X Y∧X * (D * D':Nat) = N * N' * Y∧X.natAbs≤(N * N').natAbs∧Y≤D * D':=by
 have p1:=h.low.1
 have p2:=h'.low.1
 obtain ⟨s,ao,ap,k,c,k',c',l,l',rfl,n1,n2,r,rfl,rfl⟩:=h
 obtain ⟨s',ao',ap',k1,c1,k1',c1',l1,l1',rfl,n1',n2',r',rfl,rfl⟩:=h'
 refine (F.Mul_ok s false s' false ao ap ao' ap' k c k' c' k1 c1 k1' c1' l l' l1 l1' w n1.sl n2.sl n1'.sl n2'.sl r r').mono ?_
 rintro e w' ⟨hk,X,Y,hP,hS⟩
 have hb:=prod_bd hP p1 p2
 have hW:(10:Nat) ^ 60 < M.W72:=by unfold M.W72; decide
 rcases hS with ⟨u,rfl,hu⟩ | ⟨_,hno⟩
 ·
  exact ⟨hk,u,X,Y,rfl,RQ.of hu hP.pos hP.low,by rw [Int.natCast_mul]; exact hP.eq,hb.1,hb.2⟩
 ·
  exact absurd ⟨by omega,by omega⟩ hno
end Q
end Go.Proofs.YtgofinhnlcbafaaGreat

namespace Go.Proofs.YtgofinhnlcbafaaGreat
open Go.RowKit
namespace Q
theorem pow9 {x:Int} (h2:x≤9):10 ^ x.toNat≤1000000000:=Nat.pow_le_pow_right (n:=10) (j:=9) (by decide) (by omega)
theorem tdiv_two {x:Int} (h1:-18≤x) (h2:x≤18):-9≤x.tdiv 2∧x.tdiv 2≤9∧-9≤x - x.tdiv 2∧x - x.tdiv 2≤9∧x.toNat = (x.tdiv 2).toNat + (x - x.tdiv 2).toNat∧(-x).toNat = (-(x.tdiv 2)).toNat + (-(x - x.tdiv 2)).toNat:=by
 rcases (show x < 0 ∨ 0≤x by omega) with h | h
 ·
  have e:x.tdiv 2 = -((-x) / 2):=by
   have:=Int.neg_tdiv (a:=-x) (b:=2)
   rw [Int.neg_neg] at this
   rw [this,Int.tdiv_eq_ediv_of_nonneg (by omega)]
  rw [e]; omega
 ·
  rw [Int.tdiv_eq_ediv_of_nonneg h]; omega
theorem wrap_i64' {n:Int} (h0:-9223372036854775808≤n) (h1:n≤9223372036854775807):IntKind.i64.wrap n = n:=by rw [IntKind.wrap_i64]; omega
theorem RQ.put4 {B p:Nat} {w:World} {v:Value} {N:Int} {D:Nat} {y0 y1 y2 y3:Value} (h:RQ B w v N D) (hr:F.RRow w p y0 y1 y2 y3) (x0 x1 x2 x3:Value):RQ B (Q.put4 w p x0 x1 x2 x3) v N D:=by
 obtain ⟨s,ao,ap,k1,c,k',c',l,l',rfl,n1,n2,r⟩:=h
 exact ⟨s,ao,ap,k1,c,k',c',l,l',rfl,New.put4 n1 hr (by decide) _ _ _ _,New.put4 n2 hr (by decide) _ _ _ _,r⟩
theorem rrow_far {w:World} {p q:Nat} {x0 x1 x2 x3:Value} (h:F.RRow w p x0 x1 x2 x3) (hne:¬ p = q) (y0 y1 y2 y3:Value):F.RRow (Q.put4 w q y0 y1 y2 y3) p x0 x1 x2 x3 :=
 World.rowIs.setOther (World.rowIs.setOther (World.rowIs.setOther (World.rowIs.setOther h hne y0) hne y1) hne y2) hne y3
theorem two_steps {m X X5:Int} {Y Y5 a b c d:Nat} (h1:X * ((1 * d:Nat):Int) = m * (c:Int) * (Y:Int)) (h2:X5 * ((Y * b:Nat):Int) = X * (a:Int) * (Y5:Int)) (hY:0 < Y):X5 * ((d * b:Nat):Int) = m * ((c * a:Nat):Int) * (Y5:Int):=by
 have hY':(Y:Int) ≠ 0:=by omega
 apply Int.eq_of_mul_eq_mul_right hY'
 simp only [Int.natCast_mul,Nat.one_mul] at h1 h2 ⊢
 have e1:X5 * ((d:Int) * b) * Y = (X5 * (Y * b)) * d:=by rw [Int.mul_comm (d:Int) b,← Int.mul_assoc,← Int.mul_assoc,Int.mul_right_comm,Int.mul_right_comm X5 b Y]
 have e2:m * ((c:Int) * a) * Y5 * Y = (m * c * Y) * a * Y5:=by
  rw [← Int.mul_assoc m c a,Int.mul_right_comm _ (Y5:Int) Y,Int.mul_right_comm (m * c) (a:Int) Y]
 rw [e1,e2,h2,← h1,Int.mul_right_comm (X * a) (Y5:Int) d,Int.mul_right_comm X (a:Int) d]
theorem nat_bd {X:Int} {p:Nat} (h:X.natAbs≤10 ^ 18) (hp:p≤1000000000):(X * (p:Int)).natAbs≤10 ^ 27:=by
 rw [Int.natAbs_mul,Int.natAbs_natCast]
 exact Nat.le_trans (Nat.mul_le_mul h hp) (by decide)
set_option maxRecDepth 100000 in
set_option maxHeartbeats 8000000 in
theorem scaled_any (m x:Int) (hm1:-999999999≤m) (hm2:m≤999999999) (h1:-18≤x) (h2:x≤18) (w:World) :
  Calls Tryz.prog 57 #[.int .i64 m,.int .i64 x] w fun e w' => Kept w w'∧∃ v N D,e = .returned v∧RQ w.heap.size w' v N D∧N * (10 ^ (-x).toNat:Nat) = m * (10 ^ x.toNat:Nat) * D:=by
 have HT:=hid' (tdiv_two h1 h2)
 go_enter Tryz.func57,Tryz.ntmps57
 go_upto_region 1 with fail
 have hK:=(Kept.refl w).alloc (.cells #[.bool false,.slice none 0 0,.bool false,.slice none 0 0] 68)
 have hR:=F.RRow.alloc w (.bool false) (.slice none 0 0) (.bool false) (.slice none 0 0)
 generalize w.alloc (.cells #[.bool false,.slice none 0 0,.bool false,.slice none 0 0] 68) = W at hK hR ⊢
 obtain ⟨p4,hp4⟩:∃ p,p = w.heap.size:=⟨_,rfl⟩
 rw [← hp4] at hR ⊢
 have HP:Hid (w.heap.size≤p4):=by show _≤_; omega
 have HK:=hid' hK
 have HR:=hid' hR
 clear hp4 hK hR
 obtain ⟨g,hg⟩:∃ g,g = x.tdiv 2:=⟨_,rfl⟩
 have HG:=hid' hg
 clear hg
 go_wp2_with fail
 refine (whole_any m (by omega) (by omega) _).mono ?_
 rintro e w1 ⟨hk1,v1,rfl,hq1⟩
 have H1:=hid' hq1
 have HK1:=hid' hk1
 clear hq1 hk1
 go_wp2_with fail
 refine (tenTo_any (x.tdiv 2) HT.out.1 HT.out.2.1 _).mono ?_
 rintro e w2 ⟨hk2,v2,rfl,hq2⟩
 have H1:=hid' (H1.out.kept hk2)
 have H2:=hid' hq2
 have HK2:=hid' (HK1.out.trans hk2)
 clear hq2 hk2
 go_wp2_with fail
 have hb1:(m * ((10 ^ (x.tdiv 2).toNat:Nat):Int)).natAbs≤10 ^ 18∧1 * 10 ^ (-(x.tdiv 2)).toNat≤10 ^ 9:=by
  have a1:=pow9 HT.out.2.1
  have a2:=pow9 (x:=-(x.tdiv 2)) (by have:=HT.out.1; omega)
  refine ⟨?_,by omega⟩
  rw [Int.natAbs_mul,Int.natAbs_natCast]
  exact Nat.le_trans (Nat.mul_le_mul (show m.natAbs≤1000000000 by omega) a1) (by decide)
 refine (mul_small _ H1.out H2.out (Nat.le_trans hb1.1 (by decide)) (Nat.le_trans hb1.2 (by decide))).mono ?_
 rintro e w3 ⟨hk3,u,X,Y,rfl,hq3,hX,hX1,hX2⟩
 have hq3':=hq3
 obtain ⟨s,ao,ap,k,c,k',c',l,l',rfl,_⟩:=hq3'
 have H3:=hid' (And.intro hq3 (And.intro hX (And.intro (Nat.le_trans hX1 hb1.1) (Nat.le_trans hX2 hb1.2))))
 have HK3:=hid' (HK2.out.trans hk3)
 clear hq3 hX hX1 hX2 hk3 hb1
 go_upto_region 3 with fail
 have hR6:=F.RRow.alloc w3 (.bool s) (.slice ao k c) (.bool false) (.slice ap k' c')
 have hK6:=(Kept.refl w3).alloc (.cells #[.bool s,.slice ao k c,.bool false,.slice ap k' c'] 68)
 generalize w3.alloc (.cells #[.bool s,.slice ao k c,.bool false,.slice ap k' c'] 68) = W6 at hR6 hK6 ⊢
 obtain ⟨p6,hp6⟩:∃ p,p = w3.heap.size:=⟨_,rfl⟩
 rw [← hp6] at hR6 ⊢
 have n46:¬ p4 = p6:=by have:=HR.out.lt; have:=HK3.out.size; omega
 have n64:¬ p6 = p4:=fun h => n46 h.symm
 have HP6:Hid (w.heap.size≤p6):=by show _≤_; have:=HK.out.size; have:=HK3.out.size; omega
 have H3:=hid' (And.intro (H3.out.1.kept hK6) H3.out.2)
 have HK6:=hid' (HK3.out.trans hK6)
 have H6:=hid' hR6
 obtain ⟨g,hg⟩:∃ g,g = x.tdiv 2:=⟨_,rfl⟩
 rw [← hg] at H3 HT ⊢
 have hwr:IntKind.i64.wrap (x - g) = x - g:=wrap_i64' (by have:=HT.out; omega) (by have:=HT.out; omega)
 have s0:=hR6.c0
 have s1:=hR6.c1
 have s2:=hR6.c2
 have s3:=hR6.c3
 clear hp6 hK6 hR6 hg
 go_region_with (first
  | (go_at_call 84; refine (tenTo_any (x - g) HT.out.2.2.1 HT.out.2.2.2.1 _).mono ?_; rintro e w4 ⟨hk4,v4,rfl,hq4⟩; have H4:=hid' hq4; have K4:Kept W6 w4:=(Kept.refl W6).drew.trans hk4; have t0:=(H6.out.kept K4).c0; have t1:=(H6.out.kept K4).c1; have t2:=(H6.out.kept K4).c2; have t3:=(H6.out.kept K4).c3; clear hq4 hk4)
  | (go_at_call 42; refine (mul_small _ (H3.out.1.kept K4) H4.out (Nat.le_trans (nat_bd H3.out.2.2.1 (pow9 HT.out.2.2.2.1)) (by decide)) (Nat.le_trans (Nat.mul_le_mul H3.out.2.2.2 (pow9 (x:=-(x - g)) (by have:=HT.out.2.2.1; omega))) (by decide))).mono ?_; rintro e w5 ⟨hk5,u5,X5,Y5,rfl,hq5,hX5,_,_⟩; have hq5':=hq5; obtain ⟨s5,ao5,ap5,k5,c5,k5',c5',l5,l5',rfl,_⟩:=hq5'; have H5:=hid' (And.intro hq5 hX5); have K5:Kept W6 w5:=K4.trans hk5; have z0:=(H6.out.kept K5).c0; have z1:=(H6.out.kept K5).c1; have z2:=(H6.out.kept K5).c2; have z3:=(H6.out.kept K5).c3; have y0:=(H6.out.kept K5).fz 0; have y1:=(H6.out.kept K5).fz 1; have y2:=(H6.out.kept K5).fz 2; have y3:=(H6.out.kept K5).fz 3; clear hq5 hX5 hk5))
 all_goals
  have hR4:=HR.out.kept (HK6.out.trans K5)
  have q0:=hR4.c0
  have q1:=hR4.c1
  have q2:=hR4.c2
  have q3:=hR4.c3
  have f0:=hR4.fz 0
  have f1:=hR4.fz 1
  have f2:=hR4.fz 2
  have f3:=hR4.fz 3
  have H4':=hid' hR4
  have HK5:=hid' (HK.out.trans (HK6.out.trans K5))
  have hB:w.heap.size≤w4.heap.size:=(HK.out.trans (HK6.out.trans K4)).size
  have HB:=hid' hB
  have H65:=hid' (H6.out.kept K5)
  clear hR4 K4 K5 hB t0 t1 t2 t3 s0 s1 s2 s3
  go_wp2_with fail
  refine bodyPost_ret (v:=.agg #[.bool s5,.slice ao5 k5 c5,.bool false,.slice ap5 k5' c5']) (by simp [results,Tryz.results57,go_sem,q0,q1,q2,q3]) rfl ⟨Kept.put4 (Kept.put4 HK5.out HP6.out _ _ _ _) HP.out _ _ _ _,_,X5,Y5,rfl,RQ.put4 (RQ.put4 (H5.out.1.mono HB.out) H65.out _ _ _ _) (rrow_far H4'.out n46 _ _ _ _) _ _ _ _,?_⟩
  rw [HT.out.2.2.2.2.1,HT.out.2.2.2.2.2,Nat.pow_add,Nat.pow_add]
  exact two_steps H3.out.2.1 H5.out.2 H3.out.1.low.1
end Q
end Go.Proofs.YtgofinhnlcbafaaGreat
