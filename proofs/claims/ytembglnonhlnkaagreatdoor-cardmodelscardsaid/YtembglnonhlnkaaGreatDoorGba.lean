/- model.fits, model.allRight, model.rising, model.Valid. model.rising, model.Valid. model.Valid. model.knot, model.against. model.against. What Find and Side want. shuntref05.Name. One step of a drawn region, the state laid out behind it. A step of a drawn region that comes up alone. shuntref05.Valid. model.jump. model.ownCurrent. model.Part. shuntref03.Same, shuntref05.Same. -/
import Derived.Test.YtembglnonhlnkaaGreatDoorGaq
import Derived.Test.YtembglnonhlnkaaGreatDoorGaz
import Derived.Lib.QuietBelow
import Derived.Deep.QuietTactic
import Derived.BigQuiet
namespace Go.Proofs.YtembglnonhlnkaaGreatDoor
open Go.RowKit
open Go.Sort (grow)
namespace V
open Q (hid' Row3 Row2 okN)
def Row4 (t:TypeId) (w:World) (p:Nat) (x0 x1 x2 x3:Value):Prop:=w.rowIs p t 4 (fun i => if i = 0 then x0 else if i = 1 then x1 else if i = 2 then x2 else x3)
theorem Row4.alloc (t:TypeId) (w:World) (x0 x1 x2 x3:Value):Row4 t (w.alloc (.cells #[x0,x1,x2,x3] t)) w.heap.size x0 x1 x2 x3 :=
 World.rowIs_alloc w #[x0,x1,x2,x3] t _ (fun i hi => by
  match i,hi with
  | 0,_ => rfl
  | 1,_ => rfl
  | 2,_ => rfl
  | 3,_ => rfl)
section
variable {t:TypeId} {w w':World} {p:Nat} {x0 x1 x2 x3:Value}
theorem Row4.lt (h:Row4 t w p x0 x1 x2 x3):p < w.heap.size:=World.rowIs.lt h
theorem Row4.c0 (h:Row4 t w p x0 x1 x2 x3):w.cell? ⟨p,0,none⟩ = some x0:=World.rowIs.cell h (i:=0) (by omega)
theorem Row4.c1 (h:Row4 t w p x0 x1 x2 x3):w.cell? ⟨p,1,none⟩ = some x1:=World.rowIs.cell h (i:=1) (by omega)
theorem Row4.c2 (h:Row4 t w p x0 x1 x2 x3):w.cell? ⟨p,2,none⟩ = some x2:=World.rowIs.cell h (i:=2) (by omega)
theorem Row4.c3 (h:Row4 t w p x0 x1 x2 x3):w.cell? ⟨p,3,none⟩ = some x3:=World.rowIs.cell h (i:=3) (by omega)
theorem Row4.kept (h:Row4 t w p x0 x1 x2 x3) (k:Kept w w'):Row4 t w' p x0 x1 x2 x3:=World.rowIs.of_block h (k.block p h.lt)
end
def fitsM (k:Int) (n m:Nat):Bool:=if k = 100 then decide (n = m + 1∧n≤4) else if k = 115 then decide (n = 2∧m = 1) else false
def riseN (vs:List (Int × Int)):Bool:=decide (∀ i,i < vs.length - 1→U (vs.getD i (0,0)).1 (vs.getD i (0,0)).2 < U (vs.getD (i + 1) (0,0)).1 (vs.getD (i + 1) (0,0)).2)
def allN (l:List (Int × Int)):Bool:=!(l.any fun q => !okN q.1 q.2)
def okM (s:List UInt8) (k:Int) (gs vs:List (Int × Int)):Bool:=okName s && fitsM k gs.length vs.length && allN gs && allN vs && riseN vs
set_option maxHeartbeats 4000000 in
theorem fitsM_any (s:ByteArray) (k:Int) (a1 a2:Option Addr) (n c m c':Nat) (w:World) (hm:m≤4611686018427387903) :
  Calls Tryz.prog 80 #[.agg #[.string s,.int .u8 k,.slice a1 n c,.slice a2 m c']] w fun e w' => Kept w w'∧e = .returned (.bool (fitsM k n m)):=by
 go_enter Tryz.func80,Tryz.ntmps80
 go_upto_region 1 with fail
 have hK:=(Kept.refl w).alloc (.cells #[.string s,.int .u8 k,.slice a1 n c,.slice a2 m c'] 43)
 have hR:=Row4.alloc 43 w (.string s) (.int .u8 k) (.slice a1 n c) (.slice a2 m c')
 generalize w.alloc (.cells #[.string s,.int .u8 k,.slice a1 n c,.slice a2 m c'] 43) = W at hK hR ⊢
 obtain ⟨p1,hp1⟩:∃ p,p = w.heap.size:=⟨_,rfl⟩
 rw [← hp1] at hR ⊢
 have HK:=hid' hK
 have q1:=hR.c1
 have q2:=hR.c2
 have q3:=hR.c3
 clear hp1 hK hR
 have hw:IntKind.i64.wrap ((m:Int) + 1) = (m:Int) + 1:=by rw [IntKind.wrap_i64]; omega
 by_cases h1:k = 100
 ·
  subst h1
  go_wp2_with fail
  all_goals
   go_ret
   refine ⟨HK.out,congrArg (fun b => Ending.returned (Value.bool b)) ?_⟩
   unfold fitsM
   rw [if_pos rfl,Bool.eq_iff_iff]
   simp_all
   try omega
 ·
  have h1':(k == 100) = false:=by simpa using h1
  by_cases h2:k = 115
  ·
   subst h2
   go_wp2_with fail
   all_goals
    go_ret
    refine ⟨HK.out,congrArg (fun b => Ending.returned (Value.bool b)) ?_⟩
    unfold fitsM
    rw [if_neg (by decide),if_pos rfl,Bool.eq_iff_iff]
    simp_all
    try omega
  ·
   have h2':(k == 115) = false:=by simpa using h2
   go_wp2_with fail
   go_ret
   exact ⟨HK.out,by unfold fitsM; rw [if_neg h1,if_neg h2]; rfl⟩
set_option maxHeartbeats 4000000 in
theorem right1 (m x:Int) (w:World):Calls Tryz.prog 113 #[.agg #[.int .i64 m,.int .i64 x]] w fun e w' => e = .returned (.bool (!okN m x))∧Kept w w':=by
 go_enter Tryz.func113,Tryz.ntmps113
 go_wp2_with (go_at_call 63; refine (Q.Valid_any m x _).mono ?_; rintro e w' ⟨hk,rfl⟩)
 go_ret
 exact ⟨rfl,((Kept.refl w).alloc _).trans hk⟩
set_option maxHeartbeats 4000000 in
theorem allRight_any (ao:Option Addr) (n c:Nat) (l:List (Int × Int)) (w:World) (h:NSl w (.slice ao n c) l) (hn:n≤9223372036854775807) :
  Calls Tryz.prog 81 #[.slice ao n c] w fun e w' => Kept w w'∧e = .returned (.bool (allN l)):=by
 have HS:=hid' h
 clear h
 have HA:=hid' (show allN l = !(l.any fun q => !okN q.1 q.2) from rfl)
 generalize allN l = ok at HA ⊢
 go_enter Tryz.func81,Tryz.ntmps81
 go_wp2_with fail
 refine (con_nums 113 #[] (fun x y => !okN x y) (fun _ _ => by simp) ao n c l w (fun V x y hV => (right1 x y V).mono fun e w' h => ⟨h.1,hV.trans h.2⟩) HS.out hn).mono ?_
 rintro e w' ⟨hk,rfl⟩
 have HN:=hid' hk
 clear hk
 obtain ⟨b,hb⟩:∃ b,b = l.any (fun q => !okN q.1 q.2):=⟨_,rfl⟩
 rw [← hb]
 have HO2:=hid' (show ok = !b by rw [HA.out,hb])
 clear hb HA
 go_wp2_with fail
 go_ret
 exact ⟨HN.out,by rw [HO2.out]; rfl⟩
end V
end Go.Proofs.YtembglnonhlnkaaGreatDoor

namespace Go.Proofs.YtembglnonhlnkaaGreatDoor
open Go.RowKit
open Go.Sort (grow)
namespace V
open Q (hid' Row3 Row2 okN okN_bd Scl)
theorem isgn_terms {N N' A A':Int} {D D' S:Nat} (hD:0 < D) (hD':0 < D') (hS:0 < S) (h:N * (S:Int) = A * D) (h':N' * (S:Int) = A' * D'):isgn (N * D') (N' * D) = isgn A A':=by
 have pS:(0:Int) < S:=by omega
 have pD:(0:Int) < (D:Int) * D':=Int.mul_pos (by omega) (by omega)
 have e1:N * D' * S = A * ((D:Int) * D'):=by rw [Int.mul_right_comm,h,Int.mul_assoc]
 have e2:N' * D * S = A' * ((D:Int) * D'):=by rw [Int.mul_right_comm,h',Int.mul_assoc,Int.mul_comm (D':Int)]
 apply F.isgn_eq
 ·
  constructor
  ·
   intro hlt
   have:=Int.mul_lt_mul_of_pos_right hlt pS
   rw [e1,e2] at this
   exact Int.lt_of_mul_lt_mul_right this (Int.le_of_lt pD)
  ·
   intro hlt
   have:=Int.mul_lt_mul_of_pos_right hlt pD
   rw [← e1,← e2] at this
   exact Int.lt_of_mul_lt_mul_right this (Int.le_of_lt pS)
 ·
  constructor
  ·
   intro heq
   have:A * ((D:Int) * D') = A' * ((D:Int) * D'):=by rw [← e1,← e2,heq]
   exact Int.eq_of_mul_eq_mul_right (by omega) this
  ·
   intro heq
   have:N * D' * S = N' * D * S:=by rw [e1,e2,heq]
   exact Int.eq_of_mul_eq_mul_right (by omega) this
theorem cmp_u (m x m' x':Int) (h:okN m x = true) (h':okN m' x' = true) (w:World) :
  Calls Tryz.prog 114 #[.agg #[.int .i64 m,.int .i64 x],.agg #[.int .i64 m',.int .i64 x']] w fun e w' => Kept w w'∧e = .returned (.tuple #[.int .i64 (isgn (U m x) (U m' x')),.int .i64 0]):=by
 refine (Q.cmp_any m x m' x' w).mono ?_
 rintro e w' ⟨hk,⟨h0,_⟩ | ⟨_,N,D,N',D',hs,hs',rfl⟩⟩
 ·
  exact absurd ⟨h,h'⟩ h0
 ·
  rw [isgn_terms hs.1 hs'.1 (show 0 < 10 ^ 18 by decide) (scl_u (okN_bd h).2.2.1 hs) (scl_u (okN_bd h').2.2.1 hs')]
  exact ⟨hk,rfl⟩
theorem isgn_neg {a b:Int}:isgn a b < 0 ↔ a < b:=by unfold isgn; split <;> (try split) <;> omega
set_option maxRecDepth 100000 in
set_option maxHeartbeats 4000000 in
theorem risingM_any (ao:Option Addr) (n c:Nat) (vs:List (Int × Int)) (w:World) (h:NSl w (.slice ao n c) vs) (hn:n≤4611686018427387903) (hall:allN vs = true) :
  Calls Tryz.prog 82 #[.slice ao n c] w fun e w' => Kept w w'∧e = .returned (.bool (riseN vs)):=by
 have hok:∀ q ∈ vs,okN q.1 q.2 = true:=by
  intro q hq
  unfold allN at hall
  have:vs.any (fun q => !okN q.1 q.2) = false:=by simpa using hall
  rw [List.any_eq_false] at this
  have:=this q hq
  simpa using this
 have HS:=hid' (And.intro h hok)
 clear h hok hall
 have hw:IntKind.i64.wrap ((n:Int) - 1) = (n:Int) - 1:=by rw [IntKind.wrap_i64]; omega
 go_enter Tryz.func82,Tryz.ntmps82
 go_wp2_with fail
 go_loopw [9] (fun vi wr => ∃ j:Nat,(j + 1≤n ∨ j = 0)∧vi = .int .i64 (j:Int)∧Hid (Kept w wr∧∀ i,i < j→U (vs.getD i (0,0)).1 (vs.getD i (0,0)).2 < U (vs.getD (i + 1) (0,0)).1 (vs.getD (i + 1) (0,0)).2)) (fun vi _ => n - (intOf vi).toNat)
 case atStart => exact ⟨0,.inr rfl,rfl,Kept.refl w,fun i hi => absurd hi (Nat.not_lt_zero _)⟩
 case round =>
  obtain ⟨j,hj,rfl,H⟩:=hrel
  by_cases hlt:j + 1 < n
  ·
   have hltz:(j:Int) < (n:Int) - 1:=by omega
   have hj1:(j:Int) < (n:Int):=by omega
   have hj2:(j:Int) + 1 < (n:Int):=by omega
   have hj3:(0:Int)≤(j:Int) + 1:=by omega
   have hlen:=HS.out.1.len
   obtain ⟨ao',cap',hv,hx⟩:=HS.out.1.kept H.out.1
   simp only [Value.slice.injEq] at hv
   obtain ⟨rfl,hq,rfl⟩:=hv
   obtain ⟨b,off,rfl,hb,hc⟩:=hx (by omega)
   clear hq
   obtain ⟨c0,c1⟩:=hc j (by omega)
   obtain ⟨d0,d1⟩:=hc (j + 1) (by omega)
   have ok1:okN (vs.getD j (0,0)).1 (vs.getD j (0,0)).2 = true:=HS.out.2 _ (by
    rw [List.getD_eq_getElem?_getD,List.getElem?_eq_getElem (by omega)]
    exact List.getElem_mem (by omega))
   have ok2:okN (vs.getD (j + 1) (0,0)).1 (vs.getD (j + 1) (0,0)).2 = true:=HS.out.2 _ (by
    rw [List.getD_eq_getElem?_getD,List.getElem?_eq_getElem (by omega)]
    exact List.getElem_mem (by omega))
   obtain ⟨x,hX⟩:∃ x,x = vs.getD j (0,0):=⟨_,rfl⟩
   obtain ⟨y,hY⟩:∃ y,y = vs.getD (j + 1) (0,0):=⟨_,rfl⟩
   rw [← hX] at c0 c1 ok1
   rw [← hY] at d0 d1 ok2
   have HX:=hid' (And.intro hX hY)
   obtain ⟨x0,x1⟩:=x
   obtain ⟨y0,y1⟩:=y
   dsimp only at c0 c1 d0 d1 ok1 ok2
   have ht1:((j:Int) + 1).toNat = j + 1:=by omega
   have hw2:IntKind.i64.wrap ((j:Int) + 1) = (j:Int) + 1:=by rw [IntKind.wrap_i64]; omega
   clear hX hY hx hc hlen
   go_upto_region 4 with fail
   have KR:∀ d os,Kept wr (grow (redrawn wr d) os):=fun d os => below_regrown wr d os
   have r0:∀ d os,(grow (redrawn wr d) os).cell? ⟨b,off + j * 2,none⟩ = some (.int .i64 x0):=fun d os => (Below.cell (KR d os) (p:=⟨b,off + j * 2,none⟩) hb).trans c0
   have r1:∀ d os,(grow (redrawn wr d) os).cell? ⟨b,off + j * 2 + 1,none⟩ = some (.int .i64 x1):=fun d os => (Below.cell (KR d os) (p:=⟨b,off + j * 2 + 1,none⟩) hb).trans c1
   have r2:∀ d os,(grow (redrawn wr d) os).cell? ⟨b,off + (j + 1) * 2,none⟩ = some (.int .i64 y0):=fun d os => (Below.cell (KR d os) (p:=⟨b,off + (j + 1) * 2,none⟩) hb).trans d0
   have r3:∀ d os,(grow (redrawn wr d) os).cell? ⟨b,off + (j + 1) * 2 + 1,none⟩ = some (.int .i64 y1):=fun d os => (Below.cell (KR d os) (p:=⟨b,off + (j + 1) * 2 + 1,none⟩) hb).trans d1
   obtain ⟨sg,hsg⟩:∃ sg,sg = isgn (U x0 x1) (U y0 y1):=⟨_,rfl⟩
   have cS:∀ d os,Calls Tryz.prog 114 #[.agg #[.int .i64 x0,.int .i64 x1],.agg #[.int .i64 y0,.int .i64 y1]] (grow (redrawn wr d) os) fun e w'' => e = .returned (.tuple #[.int .i64 sg,.int .i64 0])∧∃ p:Regrown,w'' = grow (redrawn wr p.d) p.os:=fun d os =>
    Calls.regrown_of ((cmp_u x0 x1 y0 y1 ok1 ok2 _).mono fun e w' h => ⟨by rw [h.2,hsg],h.1⟩)
   have HSG:=hid' hsg
   have HKR:=hid' KR
   clear KR c0 c1 d0 d1 hb hsg ok1 ok2
   refine wp_region_quiet_below (by kernel_rfl) (by kernel_rfl) ?_
   repeat (quiet_step (exact cS _ _))
   refine wpQuiet_nil ?_
   intro _ hw'
   obtain ⟨⟨dq,osq⟩,hw''⟩:=hw'
   subst hw''
   by_cases hs:0≤sg
   ·
    have HR:=hid' (show riseN vs = false by
     unfold riseN
     refine decide_eq_false (fun hh => ?_)
     have h1:=hh j (by have:=HS.out.1.len; omega)
     rw [← HX.out.1,← HX.out.2] at h1
     have h2:=isgn_neg.2 h1
     rw [← HSG.out] at h2
     omega)
    go_wp2_with fail
    go_ret
    exact ⟨H.out.1.trans (HKR.out dq osq),by rw [HR.out]; rfl⟩
   ·
    have HL:=hid' (show U (vs.getD j (0,0)).1 (vs.getD j (0,0)).2 < U (vs.getD (j + 1) (0,0)).1 (vs.getD (j + 1) (0,0)).2 by
     rw [← HX.out.1,← HX.out.2]
     exact isgn_neg.1 (by rw [← HSG.out]; omega))
    go_wp2_with fail
    go_roundw
    case rel =>
     refine ⟨j + 1,.inl (by omega),by go_num,H.out.1.trans (HKR.out dq osq),fun i hi => ?_⟩
     by_cases e:i = j
     ·
      subst e; exact HL.out
     ·
      exact H.out.2 i (by omega)
    case measure => show n - ((j:Int) + 1).toNat < n - (j:Int).toNat; omega
  ·
   have hltz:¬ (j:Int) < (n:Int) - 1:=by omega
   have HR:=hid' (show riseN vs = true by
    unfold riseN
    refine decide_eq_true (fun i hi => ?_)
    exact H.out.2 i (by have:=HS.out.1.len; omega))
   go_wp2_with fail
   go_ret
   exact ⟨H.out.1,by rw [HR.out]; rfl⟩
end V
end Go.Proofs.YtembglnonhlnkaaGreatDoor

namespace Go.Proofs.YtembglnonhlnkaaGreatDoor
open Go.RowKit
namespace V
open Q (hid' Row3 Row2 okN okN_bd Scl)
set_option maxRecDepth 100000 in
set_option maxHeartbeats 4000000 in
theorem validM_any (s:ByteArray) (k:Int) (a1 a2:Option Addr) (n c m c':Nat) (gs vs:List (Int × Int)) (w:World) (hs:s.size≤9223372036854775807) (h1:NSl w (.slice a1 n c) gs) (h2:NSl w (.slice a2 m c') vs) (hn:n≤4611686018427387903) (hm:m≤4611686018427387903) :
  Calls Tryz.prog 42 #[.agg #[.string s,.int .u8 k,.slice a1 n c,.slice a2 m c']] w fun e w' => Kept w w'∧e = .returned (.bool (okM s.data.toList k gs vs)):=by
 have HS:=hid' (And.intro h1 h2)
 have HO:=hid' (show okM s.data.toList k gs vs = (okName s.data.toList && fitsM k n m && allN gs && allN vs && riseN vs) by unfold okM; rw [h1.len,h2.len])
 generalize okM s.data.toList k gs vs = ok at HO ⊢
 clear h1 h2
 go_enter Tryz.func42,Tryz.ntmps42
 go_upto_region 1 with fail
 have hK:=(Kept.refl w).alloc (.cells #[.string s,.int .u8 k,.slice a1 n c,.slice a2 m c'] 43)
 have hR:=Row4.alloc 43 w (.string s) (.int .u8 k) (.slice a1 n c) (.slice a2 m c')
 generalize w.alloc (.cells #[.string s,.int .u8 k,.slice a1 n c,.slice a2 m c'] 43) = W at hK hR ⊢
 obtain ⟨p1,hp1⟩:∃ p,p = w.heap.size:=⟨_,rfl⟩
 rw [← hp1] at hR ⊢
 have HK:=hid' (And.intro hK hR)
 have q0:=hR.c0
 clear hp1 hK hR
 go_wp2_with fail
 refine (isName_any s _ hs).mono ?_
 rintro e w1 ⟨hk1,rfl⟩
 have HK1:=hid' (And.intro (HK.out.1.trans hk1) (HK.out.2.kept hk1))
 clear hk1 q0 HK
 obtain ⟨b1,hb1⟩:∃ b,b = okName s.data.toList:=⟨_,rfl⟩
 rw [← hb1] at HO ⊢
 clear hb1
 cases b1
 ·
  go_wp2_with fail
  go_ret
  exact ⟨HK1.out.1,by rw [HO.out]; rfl⟩
 have q0:=HK1.out.2.c0
 have q1:=HK1.out.2.c1
 have q2:=HK1.out.2.c2
 have q3:=HK1.out.2.c3
 go_wp2_with fail
 refine (fitsM_any s k a1 a2 n c m c' _ hm).mono ?_
 rintro e w2 ⟨hk2,rfl⟩
 have HK2:=hid' (And.intro (HK1.out.1.trans hk2) (HK1.out.2.kept hk2))
 clear hk2 q0 q1 q2 q3 HK1
 obtain ⟨b2,hb2⟩:∃ b,b = fitsM k n m:=⟨_,rfl⟩
 rw [← hb2] at HO ⊢
 clear hb2
 cases b2
 ·
  go_wp2_with fail
  go_ret
  exact ⟨HK2.out.1,by rw [HO.out]; rfl⟩
 have q2:=HK2.out.2.c2
 go_wp2_with fail
 refine (allRight_any a1 n c gs _ (HS.out.1.kept HK2.out.1) (by omega)).mono ?_
 rintro e w3 ⟨hk3,rfl⟩
 have HK3:=hid' (And.intro (HK2.out.1.trans hk3) (HK2.out.2.kept hk3))
 clear hk3 q2 HK2
 obtain ⟨b3,hb3⟩:∃ b,b = allN gs:=⟨_,rfl⟩
 rw [← hb3] at HO ⊢
 clear hb3
 cases b3
 ·
  go_wp2_with fail
  go_ret
  exact ⟨HK3.out.1,by rw [HO.out]; rfl⟩
 have q3:=HK3.out.2.c3
 go_wp2_with fail
 refine (allRight_any a2 m c' vs _ (HS.out.2.kept HK3.out.1) (by omega)).mono ?_
 rintro e w4 ⟨hk4,rfl⟩
 have HK4:=hid' (And.intro (HK3.out.1.trans hk4) (HK3.out.2.kept hk4))
 clear hk4 q3 HK3
 obtain ⟨b4,hb4⟩:∃ b,b = allN vs:=⟨_,rfl⟩
 rw [← hb4] at HO ⊢
 have HB4:=hid' hb4
 clear hb4
 cases b4
 ·
  go_wp2_with fail
  go_ret
  exact ⟨HK4.out.1,by rw [HO.out]; rfl⟩
 have q3:=HK4.out.2.c3
 go_wp2_with fail
 refine (risingM_any a2 m c' vs _ (HS.out.2.kept HK4.out.1) (by omega) HB4.out.symm).mono ?_
 rintro e w5 ⟨hk5,rfl⟩
 have HK5:=hid' (HK4.out.1.trans hk5)
 clear hk5 q3 HK4
 obtain ⟨b5,hb5⟩:∃ b,b = riseN vs:=⟨_,rfl⟩
 rw [← hb5] at HO ⊢
 clear hb5
 go_wp2_with fail
 go_ret
 exact ⟨HK5.out,by rw [HO.out]; rfl⟩
def refM (s:List UInt8) (k:Int) (gs vs:List (Int × Int)) (i:Int):Int:=if okM s k gs vs = true then if i < 0 ∨ (gs.length:Int)≤i then 111 else 0 else 50
end V
end Go.Proofs.YtembglnonhlnkaaGreatDoor

namespace Go.Proofs.YtembglnonhlnkaaGreatDoor
open Go.RowKit
namespace V
open Q (hid' Row3 Row2 okN okN_bd Scl)
theorem new_set4 {B p:Nat} {w:World} {v:Value} {l:List Nat} {y0 y1 y2 y3:Value} (h:New B w v l) (hr:F.RRow w p y0 y1 y2 y3) (x0 x1 x2 x3:Value):New B ((((w.setCell ⟨p,0,none⟩ x0).setCell ⟨p,1,none⟩ x1).setCell ⟨p,2,none⟩ x2).setCell ⟨p,3,none⟩ x3) v l:=by
 obtain ⟨hb,⟨rfl,rfl⟩ | ⟨b,N,f,rfl,hB,hN,hq,hf⟩⟩:=h
 ·
  exact ⟨hb,.inl ⟨rfl,rfl⟩⟩
 ·
  have hne:b ≠ p:=by
   intro e
   subst e
   obtain ⟨c,h1,_,_⟩:=hq
   obtain ⟨c',h2,_,_⟩:=hr
   rw [h1] at h2
   simp at h2
  exact ⟨hb,.inr ⟨b,N,f,rfl,hB,hN,World.rowIs.setOther (World.rowIs.setOther (World.rowIs.setOther (World.rowIs.setOther hq hne _) hne _) hne _) hne _,hf⟩⟩
theorem RT.set4 {B p:Nat} {w:World} {v:Value} {A:Int} {S:Nat} {y0 y1 y2 y3:Value} (h:RT B w v A S) (hz:F.RRow w p y0 y1 y2 y3) (x0 x1 x2 x3:Value):RT B ((((w.setCell ⟨p,0,none⟩ x0).setCell ⟨p,1,none⟩ x1).setCell ⟨p,2,none⟩ x2).setCell ⟨p,3,none⟩ x3) v A S:=by
 obtain ⟨N,D,⟨s,ao,ap,k,c,k',c',l,l',hv,h1,h2,h3⟩,he⟩:=h
 exact ⟨N,D,⟨s,ao,ap,k,c,k',c',l,l',hv,new_set4 h1 hz x0 x1 x2 x3,new_set4 h2 hz x0 x1 x2 x3,h3⟩,he⟩
end V
end Go.Proofs.YtembglnonhlnkaaGreatDoor

namespace Go.Proofs.YtembglnonhlnkaaGreatDoor
open Go.RowKit
namespace V
open Q (hid' Row3 Row2 okN okN_bd Scl)
def agn (N:Int) (D:Nat) (v:Int × Int):Int:=isgn (N * 10 ^ 36) (U v.1 v.2 * 10 ^ 27 * D)
end V
end Go.Proofs.YtembglnonhlnkaaGreatDoor

namespace Go.Proofs.YtembglnonhlnkaaGreatDoor
open Go.RowKit
namespace V
open Q (hid' Row3 Row2 okN okN_bd Scl)
def cntA (N:Int) (D:Nat):List (Int × Int)→Nat
 | [] => 0
 | v :: vs => if 0 < agn N D v then cntA N D vs + 1 else 0
def FindIs (ok:Bool) (sg nA:Bool) (an ad:List Nat) (vs:List (Int × Int)) (z f:Int):Prop :=
 (ok = false∧z = 0∧f = 50) ∨ (ok = true∧∃ cc,F.Refused 1 (fun _ => sg) (fun _ => nA) (fun _ => an) (fun _ => ad) cc∧((¬ cc = 0∧z = 0∧f = cc) ∨ (cc = 0∧f = 0∧z = cntA (M.int sg an) (M.val ad) vs)))
theorem allN_ok {vs:List (Int × Int)} (hall:allN vs = true):∀ q ∈ vs,okN q.1 q.2 = true:=by
 intro q hq
 unfold allN at hall
 have:vs.any (fun q => !okN q.1 q.2) = false:=by simpa using hall
 rw [List.any_eq_false] at this
 have:=this q hq
 simpa using this
theorem okM_all {s:List UInt8} {k:Int} {gs vs:List (Int × Int)} (h:okM s k gs vs = true):(∀ q ∈ gs,okN q.1 q.2 = true)∧(∀ q ∈ vs,okN q.1 q.2 = true)∧riseN vs = true∧fitsM k gs.length vs.length = true:=by
 unfold okM at h
 simp only [Bool.and_eq_true] at h
 exact ⟨allN_ok h.1.1.2,allN_ok h.1.2,h.2,h.1.1.1.2⟩
end V
end Go.Proofs.YtembglnonhlnkaaGreatDoor

namespace Go.Proofs.YtembglnonhlnkaaGreatDoor
open Go.RowKit
namespace V
open Q (hid' Row3 Row2 okN okN_bd Scl)
theorem bl_at (s:ByteArray) (k:Nat) (h:k < s.size):s.data.toList[k]? = some s[k]:=by
 rw [List.getElem?_eq_getElem (by rw [Array.length_toList]; exact h)]
 rfl
theorem any_take (s:ByteArray) (k:Nat) (h:k < s.size):(s.data.toList.take (k + 1)).any (fun c => !nb c) = ((s.data.toList.take k).any (fun c => !nb c) || !nb s[k]):=by
 rw [List.take_add_one,bl_at s k h,List.any_append]
 simp
set_option maxRecDepth 100000 in
set_option maxHeartbeats 4000000 in
theorem rname_any (s:ByteArray) (w:World) (hs:s.size≤9223372036854775807):Calls Tryz.prog 25 #[.string s] w fun e w' => w' = w∧e = .returned (.bool (okName s.data.toList)):=by
 have hl:s.data.toList.length = s.size:=by rw [Array.length_toList]; rfl
 have HO:=hid' (show okName s.data.toList = (decide (1≤s.size∧s.size≤16) && !(s.data.toList.any fun c => !nb c)) by unfold okName; rw [hl])
 obtain ⟨ok,hok⟩:∃ ok,ok = okName s.data.toList:=⟨_,rfl⟩
 rw [← hok] at HO ⊢
 clear hok
 have HLn:=hid' hl
 clear hl
 go_enter Tryz.func25,Tryz.ntmps25
 go_wp2_with fail
 go_loopw [3] (fun vi wr => ∃ j:Nat,j≤s.size∧vi = .int .i64 (j:Int)∧Hid ((s.data.toList.take j).any (fun c => !nb c) = false)∧wr = w) (fun vi _ => s.size - (intOf vi).toNat)
 case atStart => exact ⟨0,Nat.zero_le _,rfl,hid' (by simp),rfl⟩
 case round =>
  obtain ⟨j,hj,rfl,H,rfl⟩:=hrel
  by_cases hlt:j < s.size
  ·
   have hij:(j:Int) < (s.size:Int):=by omega
   have HT:=hid' (any_take s j hlt)
   by_cases hb:nbI (s[j].toNat:Int) = true
   ·
    have HN:=hid' (show (s.data.toList.take (j + 1)).any (fun c => !nb c) = false by rw [HT.out,H.out]; unfold nb; rw [hb]; rfl)
    have hz:=of_decide_eq_true hb
    clear hb
    by_cases e1:97≤(s[j].toNat:Int)
    ·
     by_cases e2:(s[j].toNat:Int)≤122
     ·
      have e1':¬ (s[j].toNat:Int) < 97:=by omega
      have e2':¬ (122:Int) < (s[j].toNat:Int):=by omega
      clear hz
      go_wp2_with fail
      go_roundw
      case rel => exact ⟨j + 1,by omega,by go_num,HN.out,trivial⟩
      case measure => show s.size - ((j:Int) + 1).toNat < s.size - (j:Int).toNat; omega
     ·
      omega
    ·
     by_cases e3:(s[j].toNat:Int) = 95
     ·
      have e1':(s[j].toNat:Int) < 97:=by omega
      have e4:¬ (s[j].toNat:Int) < 48:=by omega
      have e5:(57:Int) < (s[j].toNat:Int):=by omega
      have e6:((s[j].toNat:Int) == 95) = true:=by simpa using e3
      clear hz
      go_wp2_with fail
      go_roundw
      case rel => exact ⟨j + 1,by omega,by go_num,HN.out,trivial⟩
      case measure => show s.size - ((j:Int) + 1).toNat < s.size - (j:Int).toNat; omega
     ·
      have e1':(s[j].toNat:Int) < 97:=by omega
      have e4:¬ (s[j].toNat:Int) < 48:=by omega
      have e5:¬ (57:Int) < (s[j].toNat:Int):=by omega
      clear hz
      go_wp2_with fail
      go_roundw
      case rel => exact ⟨j + 1,by omega,by go_num,HN.out,trivial⟩
      case measure => show s.size - ((j:Int) + 1).toNat < s.size - (j:Int).toNat; omega
   ·
    have HE:=hid' (show ok = false by
     rw [HO.out,show (s.data.toList.any fun c => !nb c) = true from ?_]
     ·
      simp
     ·
      rw [List.any_eq_true]
      exact ⟨s[j],List.mem_of_getElem? (bl_at s j hlt),by unfold nb; simpa using hb⟩)
    have hz:=of_decide_eq_false (Bool.eq_false_iff.2 hb)
    have e3:¬ (s[j].toNat:Int) = 95:=by omega
    have e6:((s[j].toNat:Int) == 95) = false:=by simpa using e3
    clear hb
    by_cases e1:(s[j].toNat:Int) < 97
    ·
     by_cases e4:(s[j].toNat:Int) < 48
     ·
      clear hz
      go_wp2_with fail
      go_ret
      exact ⟨rfl,by rw [HE.out]; rfl⟩
     ·
      have e5:(57:Int) < (s[j].toNat:Int):=by omega
      clear hz
      go_wp2_with fail
      go_ret
      exact ⟨rfl,by rw [HE.out]; rfl⟩
    ·
     have e2:(122:Int) < (s[j].toNat:Int):=by omega
     have e4:¬ (s[j].toNat:Int) < 48:=by omega
     have e5:(57:Int) < (s[j].toNat:Int):=by omega
     clear hz
     go_wp2_with fail
     go_ret
     exact ⟨rfl,by rw [HE.out]; rfl⟩
  ·
   have hij:¬ (j:Int) < (s.size:Int):=by omega
   have HA:=hid' (show (s.data.toList.any fun c => !nb c) = false by
    rw [← H.out,List.take_of_length_le (by rw [HLn.out]; omega)])
   by_cases l1:1≤s.size
   ·
    have l1':(1:Int)≤(s.size:Int):=by omega
    by_cases l2:s.size≤16
    ·
     have l2':(s.size:Int)≤16:=by omega
     have HE:=hid' (show ok = true by rw [HO.out,HA.out,decide_eq_true ⟨l1,l2⟩]; rfl)
     go_wp2_with fail
     go_ret
     exact ⟨rfl,by rw [HE.out]; rfl⟩
    ·
     have l2':¬ (s.size:Int)≤16:=by omega
     have HE:=hid' (show ok = false by rw [HO.out,decide_eq_false (fun h => l2 h.2)]; rfl)
     go_wp2_with fail
     go_ret
     exact ⟨rfl,by rw [HE.out]; rfl⟩
   ·
    have l1':¬ (1:Int)≤(s.size:Int):=by omega
    have HE:=hid' (show ok = false by rw [HO.out,decide_eq_false (fun h => l1 h.1)]; rfl)
    go_wp2_with fail
    go_ret
    exact ⟨rfl,by rw [HE.out]; rfl⟩
end V
end Go.Proofs.YtembglnonhlnkaaGreatDoor

namespace Go.Proofs.YtembglnonhlnkaaGreatDoor
open Go.RowKit
namespace V
theorem take1 {P:Program} {md:Region.Mode} {ops:Array Oper} {Q:Exit→Act→World→Prop} {S:World→Prop} {i d:Nat} {oi:Oper} {v:Value} {fuel:Nat} {listed:Array Bool} {l:List Value} {df} {w:World} (hi:ops[i]? = some oi) (hd:oi.dst = some d)
  (hs:Region.noSelect ops = true) (hf:Region.free md ops listed i = true) (hr:(Region.ready md ops listed).contains i = true)
  (hQ:∀ c a w,Q (.panic c) (a.put oi.dst v) w→Q (.panic c) a w) (hy:YieldsIf P ops S oi v ⟨l.toArray,df⟩) (hS:S w)
  (h:wpAnyH P md ops Q S fuel (listed.setIfInBounds i true) ⟨(l.set d v).toArray,df⟩ w):wpAnyH P md ops Q S (fuel + 1) listed ⟨l.toArray,df⟩ w:=by
 refine wpAnyH_take hi hs hf hr hQ hy hS ?_
 rw [hd]
 simpa [Act.put] using h
end V
end Go.Proofs.YtembglnonhlnkaaGreatDoor

namespace Go.Proofs.YtembglnonhlnkaaGreatDoor
open Go.RowKit
namespace V
theorem ready1 {P:Program} {md:Region.Mode} {ops:Array Oper} {Q:Exit→Act→World→Prop} {S:World→Prop} {i:Nat} {o:Oper} {fuel:Nat} {listed:Array Bool} {a:Act} {w:World} (hr:Region.ready md ops listed = [i]) (ho:ops[i]? = some o) (hw:Region.wanted o (yielded ops a.tmps) = true)
  (h:∀ K':Act→World→Prop,Shut (∀ a w,S w→(S w→wpAnyH P md ops Q S fuel (listed.setIfInBounds i true) a w)→K' a w)→Oper.wp P o a w K' Q):wpAnyH P md ops Q S (fuel + 1) listed a w :=
 wpAnyH_ready hr (by simp) (AllReadyH.cons ho (fun K hK => by rw [if_pos hw]; exact h K hK) AllReadyH.nil)
end V
end Go.Proofs.YtembglnonhlnkaaGreatDoor

namespace Go.Proofs.YtembglnonhlnkaaGreatDoor
open Go.RowKit
namespace V
open Q (hid' Row3 Row2 okN okN_bd Scl)
theorem ft_held {v v':Value} {A A':Int} {S:Nat} (w:World) (h:FT w v A S) (h':FT w v' A' S) (hS:0 < S) :
  Calls Tryz.prog 52 #[v,v'] w fun e w' => Kept w w'∧e = .returned (.int .i64 (isgn A A')):=by
 obtain ⟨N,D,⟨s,a1,k1,c1,t,a2,k2,c2,rfl,n1,n2,l1,l2⟩,p,_,e⟩:=h
 obtain ⟨N',D',⟨s',b1,k3,c3,t',b2,k4,c4,rfl,n3,n4,l3,l4⟩,p',_,e'⟩:=h'
 refine (F.FHeld_any s t s' t' a1 a2 b1 b2 k1 c1 k2 c2 k3 c3 k4 c4 N D N' D' w n1 n2 n3 n4 (by omega)).mono ?_
 rintro e0 w' ⟨hk,rfl⟩
 have q:(D.toNat:Int) = D:=Int.toNat_of_nonneg (by omega)
 have q':(D'.toNat:Int) = D':=Int.toNat_of_nonneg (by omega)
 have:=isgn_terms (N:=N) (N':=N') (A:=A) (A':=A') (D:=D.toNat) (D':=D'.toNat) (S:=S) (by omega) (by omega) hS (by rw [q]; exact e) (by rw [q']; exact e')
 rw [q,q'] at this
 exact ⟨hk,by rw [this]⟩
theorem allN_of {l:List (Int × Int)} (h:∀ i,i < l.length→okN (l.getD i (0,0)).1 (l.getD i (0,0)).2 = true):allN l = true:=by
 unfold allN
 have:l.any (fun q => !okN q.1 q.2) = false:=by
  rw [List.any_eq_false]
  intro q hq
  obtain ⟨i,hi,rfl⟩:=List.getElem_of_mem hq
  have:=h i hi
  rw [List.getD_eq_getElem?_getD,List.getElem?_eq_getElem hi] at this
  simpa using this
 rw [this]; rfl
theorem okM_at {s:List UInt8} {k:Int} {gs vs:List (Int × Int)} (h:okM s k gs vs = true):(∀ i,i < gs.length→okN (gs.getD i (0,0)).1 (gs.getD i (0,0)).2 = true)∧(∀ i,i < vs.length→okN (vs.getD i (0,0)).1 (vs.getD i (0,0)).2 = true):=by
 have h0:=okM_all h
 constructor
 ·
  intro i hi
  refine h0.1 _ ?_
  rw [List.getD_eq_getElem?_getD,List.getElem?_eq_getElem hi]
  exact List.getElem_mem hi
 ·
  intro i hi
  refine h0.2.1 _ ?_
  rw [List.getD_eq_getElem?_getD,List.getElem?_eq_getElem hi]
  exact List.getElem_mem hi
open Go.Sort (grow) in
set_option maxRecDepth 100000 in
set_option maxHeartbeats 8000000 in
theorem rvalidM_any (s:ByteArray) (k:Int) (a1 a2:Option Addr) (n c m c':Nat) (gs vs:List (Int × Int)) (w:World) (hs:s.size≤9223372036854775807) (h1:NSl w (.slice a1 n c) gs) (h2:NSl w (.slice a2 m c') vs) (hn:n≤4611686018427387903) (hm:m≤4611686018427387903) :
  Calls Tryz.prog 29 #[.agg #[.string s,.int .u8 k,.slice a1 n c,.slice a2 m c']] w fun e w' => Kept w w'∧e = .returned (.bool (okM s.data.toList k gs vs)):=by
 have HS:=hid' (And.intro h1 h2)
 have HL:=hid' (show m = vs.length∧n = gs.length from ⟨h2.len,h1.len⟩)
 clear h1 h2
 have HN:=hid' (rname_any s)
 have hsz:=hs
 go_enter Tryz.func29,Tryz.ntmps29
 go_upto_region 1 with fail
 have hK:=(Kept.refl w).alloc (.cells #[.string s,.int .u8 k,.slice a1 n c,.slice a2 m c'] 43)
 have hR:=Row4.alloc 43 w (.string s) (.int .u8 k) (.slice a1 n c) (.slice a2 m c')
 generalize w.alloc (.cells #[.string s,.int .u8 k,.slice a1 n c,.slice a2 m c'] 43) = W at hK hR ⊢
 obtain ⟨p,hp⟩:∃ p,p = w.heap.size:=⟨_,rfl⟩
 rw [← hp] at hR ⊢
 have HB:=hid' (And.intro hK hR)
 have q0:=hR.c0
 clear hp hK hR
 go_wp2_with fail
 refine (HN.out _ hsz).mono ?_
 rintro e w1 ⟨rfl,rfl⟩
 obtain ⟨b1,hb1⟩:∃ b,b = okName s.data.toList:=⟨_,rfl⟩
 rw [← hb1]
 have HB1:=hid' hb1
 clear hb1 q0 HN
 cases b1
 ·
  go_wp2_with fail
  go_ret
  exact ⟨HB.out.1,by unfold okM; rw [← HB1.out]; rfl⟩
 go_wp2_with fail
 go_loopw [3] (fun vi wr => ∃ j:Nat,j≤n∧vi = .int .i64 (j:Int)∧Hid (Kept w1 wr∧∀ i,i < j→okN (gs.getD i (0,0)).1 (gs.getD i (0,0)).2 = true)) (fun vi _ => n - (intOf vi).toNat)
 case atStart => exact ⟨0,Nat.zero_le _,rfl,Kept.refl _,fun i hi => absurd hi (Nat.not_lt_zero _)⟩
 case round =>
  obtain ⟨j,hj,rfl,H⟩:=hrel
  have e2:=(HB.out.2.kept H.out.1).c2
  by_cases hlt:j < n
  ·
   have hltz:(j:Int) < (n:Int):=by omega
   obtain ⟨ao',cap',hv,hx⟩:=HS.out.1.kept (HB.out.1.trans H.out.1)
   simp only [Value.slice.injEq] at hv
   obtain ⟨rfl,hq',rfl⟩:=hv
   obtain ⟨b,off,rfl,hb,hc⟩:=hx (by omega)
   obtain ⟨d0,d1⟩:=hc j (by omega)
   obtain ⟨x,hX⟩:∃ x,x = gs.getD j (0,0):=⟨_,rfl⟩
   rw [← hX] at d0 d1
   have HX:=hid' hX
   obtain ⟨x0,x1⟩:=x
   dsimp only at d0 d1
   clear hq' hx hc hX hb
   go_wp2_with fail
   refine (Q.RValid_any x0 x1 _).mono ?_
   rintro e w2 ⟨hk2,rfl⟩
   have HK2:=hid' (H.out.1.trans hk2)
   obtain ⟨o1,ho1⟩:∃ o,o = okN x0 x1:=⟨_,rfl⟩
   rw [← ho1]
   have HO:=hid' (show o1 = okN (gs.getD j (0,0)).1 (gs.getD j (0,0)).2 by rw [ho1,← HX.out])
   clear hk2 d0 d1 e2 ho1 HX
   cases o1
   ·
    go_wp2_with fail
    go_ret
    refine ⟨HB.out.1.trans HK2.out,congrArg (fun b => Ending.returned (Value.bool b)) ?_⟩
    symm
    rw [Bool.eq_false_iff]
    intro hok
    have:=(okM_at hok).1 j (by have:=HL.out; omega)
    rw [← HO.out] at this
    cases this
   ·
    go_wp2_with fail
    go_roundw
    case rel =>
     refine ⟨j + 1,by omega,by go_num,HK2.out,fun i hi => ?_⟩
     by_cases e:i = j
     ·
      subst e; exact HO.out.symm
     ·
      exact H.out.2 i (by omega)
    case measure => show n - ((j:Int) + 1).toNat < n - (j:Int).toNat; omega
  ·
   obtain rfl:j = n:=by omega
   have hltz:¬ (j:Int) < (j:Int):=by omega
   have HG:=hid' (fun i (hi:i < gs.length) => H.out.2 i (by have:=HL.out; omega))
   have HB:=hid' (And.intro (HB.out.1.trans H.out.1) (HB.out.2.kept H.out.1))
   clear H hlt
   go_wp2_with fail
   clear e2
   generalize hW:wr = W at HB ⊢
   clear hW
   go_loopw [4] (fun vi wr => ∃ i:Nat,i≤m∧vi = .int .i64 (i:Int)∧Hid (Kept W wr∧(∀ l,l < i→okN (vs.getD l (0,0)).1 (vs.getD l (0,0)).2 = true)∧(k = 100→∀ l,l + 1 < i→U (vs.getD l (0,0)).1 (vs.getD l (0,0)).2 < U (vs.getD (l + 1) (0,0)).1 (vs.getD (l + 1) (0,0)).2))) (fun vi _ => m - (intOf vi).toNat)
   case atStart => exact ⟨0,Nat.zero_le _,rfl,Kept.refl _,(fun i hi => absurd hi (Nat.not_lt_zero _)),fun _ i hi => absurd hi (Nat.not_lt_zero _)⟩
   case round =>
    obtain ⟨i,hi,rfl,H⟩:=hrel
    have e3:=(HB.out.2.kept H.out.1).c3
    by_cases hlt:i < m
    ·
     have hltm:(i:Int) < (m:Int):=by omega
     obtain ⟨ao',cap',hv,hx⟩:=HS.out.2.kept (HB.out.1.trans H.out.1)
     simp only [Value.slice.injEq] at hv
     obtain ⟨rfl,hq',rfl⟩:=hv
     obtain ⟨b,off,rfl,hb,hc⟩:=hx (by omega)
     obtain ⟨d2,d3⟩:=hc i (by omega)
     obtain ⟨y,hY⟩:∃ y,y = vs.getD i (0,0):=⟨_,rfl⟩
     rw [← hY] at d2 d3
     have HY:=hid' hY
     obtain ⟨y0,y1⟩:=y
     dsimp only at d2 d3
     have HC:=hid' (And.intro hb hc)
     clear hq' hx hc hY hb
     go_wp2_with fail
     refine (Q.RValid_any y0 y1 _).mono ?_
     rintro e W7 ⟨hk2,rfl⟩
     have HK7:=hid' (H.out.1.trans hk2)
     obtain ⟨o1,ho1⟩:∃ o,o = okN y0 y1:=⟨_,rfl⟩
     rw [← ho1]
     have HO:=hid' ho1
     have HO1':=hid' (show o1 = okN (vs.getD i (0,0)).1 (vs.getD i (0,0)).2 by rw [ho1,← HY.out])
     have HC:=hid' (show b < W7.heap.size∧∀ j,j < vs.length→W7.cell? ⟨b,off + j * 2,none⟩ = some (.int .i64 (vs.getD j (0,0)).1)∧W7.cell? ⟨b,off + j * 2 + 1,none⟩ = some (.int .i64 (vs.getD j (0,0)).2) from
      ⟨Nat.lt_of_lt_of_le HC.out.1 hk2.size,fun j hj => ⟨(Below.cell hk2 (p:=⟨b,off + j * 2,none⟩) HC.out.1).trans (HC.out.2 j hj).1,(Below.cell hk2 (p:=⟨b,off + j * 2 + 1,none⟩) HC.out.1).trans (HC.out.2 j hj).2⟩⟩)
     clear hk2 d2 d3 e3 ho1
     cases o1
     ·
      go_wp2_with fail
      go_ret
      refine ⟨HB.out.1.trans HK7.out,congrArg (fun b => Ending.returned (Value.bool b)) ?_⟩
      symm
      rw [Bool.eq_false_iff]
      intro hok
      have:=(okM_at hok).2 i (by have:=HL.out; omega)
      rw [← HO1'.out] at this
      cases this
     ·
      by_cases hkd:k = 100
      ·
       by_cases hi0:i = 0
       ·
        subst hi0
        subst hkd
        have hz:¬ (0:Int) < ((0:Nat):Int):=by omega
        have KR:Kept W7 W7.drew:=(Kept.refl _).drew
        have e1:=(HB.out.2.kept HK7.out).c1
        have hml:=(HB.out.2.kept HK7.out).lt
        have sS:=hid' (fun (V:World) (K:Kept W7 V) => (show V.cell? ⟨p,1,none⟩ = some (.int .u8 100) from (Below.cell K (p:=⟨p,1,none⟩) hml).trans e1))
        clear e1 hml
        go_upto_region 13 with fail
        refine wp_region_held_drew (S:=fun w' => w'.cell? ⟨p,1,none⟩ = some (.int .u8 100)) (by kernel_rfl) (sS.out _ KR) (fun hHeld => ?_)
        generalize W7.drew = Wd at KR hHeld ⊢
        refine take1 (i:=0) (v:=?vz03) rfl rfl (by kernel_rfl) (by kernel_rfl) (by kernel_rfl) (fun _ _ _ h => h) (Or.inl ⟨by kernel_rfl,?yz03⟩) hHeld ?rz03
        case yz03 =>
         intro w' hSw
         have hSw0:=hSw
         go_simp
         with_reducible rfl
        case rz03 =>
        simp only [List.set_cons_zero,List.set_cons_succ]
        refine take1 (i:=1) (v:=?vz04) rfl rfl (by kernel_rfl) (by kernel_rfl) (by kernel_rfl) (fun _ _ _ h => h) (Or.inl ⟨by kernel_rfl,?yz04⟩) hHeld ?rz04
        case yz04 =>
         intro w' hSw
         have hSw0:=hSw
         go_simp
         with_reducible rfl
        case rz04 =>
        simp only [List.set_cons_zero,List.set_cons_succ]
        refine take1 (i:=2) (v:=?vz05) rfl rfl (by kernel_rfl) (by kernel_rfl) (by kernel_rfl) (fun _ _ _ h => h) (Or.inl ⟨by kernel_rfl,?yz05⟩) hHeld ?rz05
        case yz05 =>
         intro w' hSw
         have hSw0:=hSw
         go_simp
         with_reducible rfl
        case rz05 =>
        simp only [List.set_cons_zero,List.set_cons_succ]
        refine take1 (i:=3) (v:=?vz06) rfl rfl (by kernel_rfl) (by kernel_rfl) (by kernel_rfl) (fun _ _ _ h => h) (Or.inl ⟨by kernel_rfl,?yz06⟩) hHeld ?rz06
        case yz06 =>
         intro w' hSw
         have hSw0:=hSw
         go_simp
         with_reducible rfl
        case rz06 =>
        simp only [List.set_cons_zero,List.set_cons_succ]
        refine take1 (i:=4) (v:=?vz01) rfl rfl (by kernel_rfl) (by kernel_rfl) (by kernel_rfl) (fun _ _ _ h => h) (Or.inl ⟨by kernel_rfl,?yz01⟩) hHeld ?rz01
        case yz01 =>
         intro w' hSw
         have hSw0:=hSw
         go_simp
         with_reducible rfl
        case rz01 =>
        simp only [List.set_cons_zero,List.set_cons_succ]
        refine take1 (i:=5) (v:=?vz02) rfl rfl (by kernel_rfl) (by kernel_rfl) (by kernel_rfl) (fun _ _ _ h => h) (Or.inl ⟨by kernel_rfl,?yz02⟩) hHeld ?rz02
        case yz02 =>
         intro w' hSw
         have hSw0:=hSw
         go_simp
         with_reducible rfl
        case rz02 =>
        simp only [List.set_cons_zero,List.set_cons_succ]
        refine take1 (i:=6) (v:=?vz07) rfl rfl (by kernel_rfl) (by kernel_rfl) (by kernel_rfl) (fun _ _ _ h => h) (Or.inl ⟨by kernel_rfl,?yz07⟩) hHeld ?rz07
        case yz07 =>
         intro w' hSw
         have hSw0:=hSw
         go_simp
         with_reducible rfl
        case rz07 =>
        simp only [List.set_cons_zero,List.set_cons_succ]
        refine take1 (i:=7) (v:=?vz08) rfl rfl (by kernel_rfl) (by kernel_rfl) (by kernel_rfl) (fun _ _ _ h => h) (Or.inl ⟨by kernel_rfl,?yz08⟩) hHeld ?rz08
        case yz08 =>
         intro w' hSw
         have hSw0:=hSw
         go_simp
         with_reducible rfl
        case rz08 =>
        simp only [List.set_cons_zero,List.set_cons_succ]
        refine take1 (i:=8) (v:=undef) rfl rfl (by kernel_rfl) (by kernel_rfl) (by kernel_rfl) (fun _ _ _ h => h) (Or.inr ⟨by kernel_rfl,rfl⟩) hHeld ?rz09
        case rz09 =>
        simp only [List.set_cons_zero,List.set_cons_succ]
        refine take1 (i:=9) (v:=undef) rfl rfl (by kernel_rfl) (by kernel_rfl) (by kernel_rfl) (fun _ _ _ h => h) (Or.inr ⟨by kernel_rfl,rfl⟩) hHeld ?rz010
        case rz010 =>
        simp only [List.set_cons_zero,List.set_cons_succ]
        refine take1 (i:=10) (v:=undef) rfl rfl (by kernel_rfl) (by kernel_rfl) (by kernel_rfl) (fun _ _ _ h => h) (Or.inr ⟨by kernel_rfl,rfl⟩) hHeld ?rz011
        case rz011 =>
        simp only [List.set_cons_zero,List.set_cons_succ]
        refine take1 (i:=11) (v:=undef) rfl rfl (by kernel_rfl) (by kernel_rfl) (by kernel_rfl) (fun _ _ _ h => h) (Or.inr ⟨by kernel_rfl,rfl⟩) hHeld ?rz012
        case rz012 =>
        simp only [List.set_cons_zero,List.set_cons_succ]
        refine take1 (i:=12) (v:=undef) rfl rfl (by kernel_rfl) (by kernel_rfl) (by kernel_rfl) (fun _ _ _ h => h) (Or.inr ⟨by kernel_rfl,rfl⟩) hHeld ?rz013
        case rz013 =>
        simp only [List.set_cons_zero,List.set_cons_succ]
        refine take1 (i:=13) (v:=undef) rfl rfl (by kernel_rfl) (by kernel_rfl) (by kernel_rfl) (fun _ _ _ h => h) (Or.inr ⟨by kernel_rfl,rfl⟩) hHeld ?rz014
        case rz014 =>
        simp only [List.set_cons_zero,List.set_cons_succ]
        refine take1 (i:=14) (v:=undef) rfl rfl (by kernel_rfl) (by kernel_rfl) (by kernel_rfl) (fun _ _ _ h => h) (Or.inr ⟨by kernel_rfl,rfl⟩) hHeld ?rz015
        case rz015 =>
        simp only [List.set_cons_zero,List.set_cons_succ]
        refine take1 (i:=15) (v:=undef) rfl rfl (by kernel_rfl) (by kernel_rfl) (by kernel_rfl) (fun _ _ _ h => h) (Or.inr ⟨by kernel_rfl,rfl⟩) hHeld ?rz016
        case rz016 =>
        simp only [List.set_cons_zero,List.set_cons_succ]
        refine take1 (i:=16) (v:=undef) rfl rfl (by kernel_rfl) (by kernel_rfl) (by kernel_rfl) (fun _ _ _ h => h) (Or.inr ⟨by kernel_rfl,rfl⟩) hHeld ?rz017
        case rz017 =>
        simp only [List.set_cons_zero,List.set_cons_succ]
        refine take1 (i:=17) (v:=undef) rfl rfl (by kernel_rfl) (by kernel_rfl) (by kernel_rfl) (fun _ _ _ h => h) (Or.inr ⟨by kernel_rfl,rfl⟩) hHeld ?rz018
        case rz018 =>
        simp only [List.set_cons_zero,List.set_cons_succ]
        refine take1 (i:=18) (v:=undef) rfl rfl (by kernel_rfl) (by kernel_rfl) (by kernel_rfl) (fun _ _ _ h => h) (Or.inr ⟨by kernel_rfl,rfl⟩) hHeld ?rz019
        case rz019 =>
        simp only [List.set_cons_zero,List.set_cons_succ]
        refine take1 (i:=19) (v:=undef) rfl rfl (by kernel_rfl) (by kernel_rfl) (by kernel_rfl) (fun _ _ _ h => h) (Or.inr ⟨by kernel_rfl,rfl⟩) hHeld ?rz020
        case rz020 =>
        simp only [List.set_cons_zero,List.set_cons_succ]
        refine take1 (i:=20) (v:=undef) rfl rfl (by kernel_rfl) (by kernel_rfl) (by kernel_rfl) (fun _ _ _ h => h) (Or.inr ⟨by kernel_rfl,rfl⟩) hHeld ?rz021
        case rz021 =>
        simp only [List.set_cons_zero,List.set_cons_succ]
        refine take1 (i:=21) (v:=undef) rfl rfl (by kernel_rfl) (by kernel_rfl) (by kernel_rfl) (fun _ _ _ h => h) (Or.inr ⟨by kernel_rfl,rfl⟩) hHeld ?rz022
        case rz022 =>
        simp only [List.set_cons_zero,List.set_cons_succ]
        refine take1 (i:=22) (v:=undef) rfl rfl (by kernel_rfl) (by kernel_rfl) (by kernel_rfl) (fun _ _ _ h => h) (Or.inr ⟨by kernel_rfl,rfl⟩) hHeld ?rz023
        case rz023 =>
        simp only [List.set_cons_zero,List.set_cons_succ]
        refine take1 (i:=23) (v:=?vz024) rfl rfl (by kernel_rfl) (by kernel_rfl) (by kernel_rfl) (fun _ _ _ h => h) (Or.inl ⟨by kernel_rfl,?yz024⟩) hHeld ?rz024
        case yz024 =>
         intro w' hSw
         have hSw0:=hSw
         go_simp
         with_reducible rfl
        case rz024 =>
        simp only [List.set_cons_zero,List.set_cons_succ]
        refine wpAnyH_done (by kernel_rfl) ?_ _
        have HKR:=hid' KR
        clear sS hHeld KR
        go_wp2_with fail
        go_roundw
        case rel =>
         refine ⟨0 + 1,by omega,by go_num,HK7.out.trans HKR.out,(fun l hl => ?_),fun _ l hl => by omega⟩
         obtain rfl:l = 0:=by omega
         exact HO1'.out.symm
        case measure => show m - (((0:Nat):Int) + 1).toNat < m - ((0:Nat):Int).toNat; omega
       ·
        obtain ⟨j,rfl⟩:∃ j,i = j + 1:=⟨i - 1,by omega⟩
        subst hkd
        have ec:((j + 1:Nat):Int) = (j:Int) + 1:=by omega
        rw [ec] at hltm ⊢
        obtain ⟨hb,hc⟩:=HC.out
        obtain ⟨d0,d1⟩:=hc j (by have:=HL.out; omega)
        obtain ⟨d2,d3⟩:=hc (j + 1) (by have:=HL.out; omega)
        obtain ⟨x,hX⟩:∃ x,x = vs.getD j (0,0):=⟨_,rfl⟩
        rw [← hX] at d0 d1
        rw [← HY.out] at d2 d3
        have HX:=hid' (And.intro hX HY.out)
        have ok0:okN (vs.getD j (0,0)).1 (vs.getD j (0,0)).2 = true:=H.out.2.1 j (by omega)
        rw [← hX] at ok0
        have ok1:okN y0 y1 = true:=HO.out.symm
        have HO1:=hid' HO1'.out.symm
        obtain ⟨x0,x1⟩:=x
        dsimp only at d0 d1 d2 d3 ok0
        clear hc hX HC HO HO1' hi0 ec HY
        have hj1:(0:Int) < (j:Int) + 1:=by omega
        have hj2:(j:Int) + 1 - 1 = (j:Int):=by omega
        have hj3:IntKind.i64.wrap (j:Int) = (j:Int):=by rw [IntKind.wrap_i64]; omega
        have hj5:(j:Int) < (m:Int):=by omega
        have hj6:((j:Int) + 1).toNat = j + 1:=by omega
        have hj7:(0:Int)≤(j:Int) + 1:=by omega
        have hsz:=(HB.out.2.kept H.out.1).lt
        have KT:Kept W W7.drew:=HK7.out.drew
        have KR:Kept W7 W7.drew:=(Kept.refl _).drew
        have e1:=(HB.out.2.kept HK7.out).c1
        have e3:=(HB.out.2.kept HK7.out).c3
        have hml:=(HB.out.2.kept HK7.out).lt
        have sS:=hid' (fun (V:World) (K:Kept W7 V) => (show V.cell? ⟨p,1,none⟩ = some (.int .u8 100)∧V.cell? ⟨p,3,none⟩ = some (.slice (some ⟨b,off,none⟩) m c')∧V.cell? ⟨b,off + j * 2,none⟩ = some (.int .i64 x0)∧V.cell? ⟨b,off + j * 2 + 1,none⟩ = some (.int .i64 x1)∧V.cell? ⟨b,off + (j + 1) * 2,none⟩ = some (.int .i64 y0)∧V.cell? ⟨b,off + (j + 1) * 2 + 1,none⟩ = some (.int .i64 y1) from ⟨(Below.cell K (p:=⟨p,1,none⟩) hml).trans e1,(Below.cell K (p:=⟨p,3,none⟩) hml).trans e3,(Below.cell K (p:=⟨b,off + j * 2,none⟩) hb).trans d0,(Below.cell K (p:=⟨b,off + j * 2 + 1,none⟩) hb).trans d1,(Below.cell K (p:=⟨b,off + (j + 1) * 2,none⟩) hb).trans d2,(Below.cell K (p:=⟨b,off + (j + 1) * 2 + 1,none⟩) hb).trans d3⟩))
        clear e1 e3 hml d0 d1 d2 d3 hb hsz
        go_upto_region 13 with fail
        refine wp_region_held_drew (S:=fun w' => w'.cell? ⟨p,1,none⟩ = some (.int .u8 100)∧w'.cell? ⟨p,3,none⟩ = some (.slice (some ⟨b,off,none⟩) m c')∧w'.cell? ⟨b,off + j * 2,none⟩ = some (.int .i64 x0)∧w'.cell? ⟨b,off + j * 2 + 1,none⟩ = some (.int .i64 x1)∧w'.cell? ⟨b,off + (j + 1) * 2,none⟩ = some (.int .i64 y0)∧w'.cell? ⟨b,off + (j + 1) * 2 + 1,none⟩ = some (.int .i64 y1)) (by kernel_rfl) (sS.out _ KR) (fun hHeld => ?_)
        generalize W7.drew = Wd at KT KR hHeld ⊢
        refine take1 (i:=0) (v:=?vq1) rfl rfl (by kernel_rfl) (by kernel_rfl) (by kernel_rfl) (fun _ _ _ h => h) (Or.inl ⟨by kernel_rfl,?yq1⟩) hHeld ?rq1
        case yq1 =>
         intro w' hSw
         obtain ⟨hSw0,hSw1,hSw2,hSw3,hSw4,hSw5⟩:=hSw
         go_simp
         with_reducible rfl
        case rq1 =>
        simp only [List.set_cons_zero,List.set_cons_succ]
        refine take1 (i:=1) (v:=?vq2) rfl rfl (by kernel_rfl) (by kernel_rfl) (by kernel_rfl) (fun _ _ _ h => h) (Or.inl ⟨by kernel_rfl,?yq2⟩) hHeld ?rq2
        case yq2 =>
         intro w' hSw
         obtain ⟨hSw0,hSw1,hSw2,hSw3,hSw4,hSw5⟩:=hSw
         go_simp
         with_reducible rfl
        case rq2 =>
        simp only [List.set_cons_zero,List.set_cons_succ]
        refine take1 (i:=2) (v:=?vq3) rfl rfl (by kernel_rfl) (by kernel_rfl) (by kernel_rfl) (fun _ _ _ h => h) (Or.inl ⟨by kernel_rfl,?yq3⟩) hHeld ?rq3
        case yq3 =>
         intro w' hSw
         obtain ⟨hSw0,hSw1,hSw2,hSw3,hSw4,hSw5⟩:=hSw
         go_simp
         with_reducible rfl
        case rq3 =>
        simp only [List.set_cons_zero,List.set_cons_succ]
        refine take1 (i:=3) (v:=?vq4) rfl rfl (by kernel_rfl) (by kernel_rfl) (by kernel_rfl) (fun _ _ _ h => h) (Or.inl ⟨by kernel_rfl,?yq4⟩) hHeld ?rq4
        case yq4 =>
         intro w' hSw
         obtain ⟨hSw0,hSw1,hSw2,hSw3,hSw4,hSw5⟩:=hSw
         go_simp
         with_reducible rfl
        case rq4 =>
        simp only [List.set_cons_zero,List.set_cons_succ]
        refine take1 (i:=4) (v:=?vq5) rfl rfl (by kernel_rfl) (by kernel_rfl) (by kernel_rfl) (fun _ _ _ h => h) (Or.inl ⟨by kernel_rfl,?yq5⟩) hHeld ?rq5
        case yq5 =>
         intro w' hSw
         obtain ⟨hSw0,hSw1,hSw2,hSw3,hSw4,hSw5⟩:=hSw
         go_simp
         with_reducible rfl
        case rq5 =>
        simp only [List.set_cons_zero,List.set_cons_succ]
        refine take1 (i:=5) (v:=?vq6) rfl rfl (by kernel_rfl) (by kernel_rfl) (by kernel_rfl) (fun _ _ _ h => h) (Or.inl ⟨by kernel_rfl,?yq6⟩) hHeld ?rq6
        case yq6 =>
         intro w' hSw
         obtain ⟨hSw0,hSw1,hSw2,hSw3,hSw4,hSw5⟩:=hSw
         go_simp
         with_reducible rfl
        case rq6 =>
        simp only [List.set_cons_zero,List.set_cons_succ]
        refine take1 (i:=6) (v:=?vq7) rfl rfl (by kernel_rfl) (by kernel_rfl) (by kernel_rfl) (fun _ _ _ h => h) (Or.inl ⟨by kernel_rfl,?yq7⟩) hHeld ?rq7
        case yq7 =>
         intro w' hSw
         obtain ⟨hSw0,hSw1,hSw2,hSw3,hSw4,hSw5⟩:=hSw
         go_simp
         with_reducible rfl
        case rq7 =>
        simp only [List.set_cons_zero,List.set_cons_succ]
        refine take1 (i:=7) (v:=?vq8) rfl rfl (by kernel_rfl) (by kernel_rfl) (by kernel_rfl) (fun _ _ _ h => h) (Or.inl ⟨by kernel_rfl,?yq8⟩) hHeld ?rq8
        case yq8 =>
         intro w' hSw
         obtain ⟨hSw0,hSw1,hSw2,hSw3,hSw4,hSw5⟩:=hSw
         go_simp
         with_reducible rfl
        case rq8 =>
        simp only [List.set_cons_zero,List.set_cons_succ]
        refine take1 (i:=8) (v:=?vq9) rfl rfl (by kernel_rfl) (by kernel_rfl) (by kernel_rfl) (fun _ _ _ h => h) (Or.inl ⟨by kernel_rfl,?yq9⟩) hHeld ?rq9
        case yq9 =>
         intro w' hSw
         obtain ⟨hSw0,hSw1,hSw2,hSw3,hSw4,hSw5⟩:=hSw
         go_simp
         with_reducible rfl
        case rq9 =>
        simp only [List.set_cons_zero,List.set_cons_succ]
        refine take1 (i:=9) (v:=?vq10) rfl rfl (by kernel_rfl) (by kernel_rfl) (by kernel_rfl) (fun _ _ _ h => h) (Or.inl ⟨by kernel_rfl,?yq10⟩) hHeld ?rq10
        case yq10 =>
         intro w' hSw
         obtain ⟨hSw0,hSw1,hSw2,hSw3,hSw4,hSw5⟩:=hSw
         go_simp
         with_reducible rfl
        case rq10 =>
        simp only [List.set_cons_zero,List.set_cons_succ]
        refine take1 (i:=10) (v:=?vq11) rfl rfl (by kernel_rfl) (by kernel_rfl) (by kernel_rfl) (fun _ _ _ h => h) (Or.inl ⟨by kernel_rfl,?yq11⟩) hHeld ?rq11
        case yq11 =>
         intro w' hSw
         obtain ⟨hSw0,hSw1,hSw2,hSw3,hSw4,hSw5⟩:=hSw
         go_simp
         with_reducible rfl
        case rq11 =>
        simp only [List.set_cons_zero,List.set_cons_succ]
        refine take1 (i:=11) (v:=?vq12) rfl rfl (by kernel_rfl) (by kernel_rfl) (by kernel_rfl) (fun _ _ _ h => h) (Or.inl ⟨by kernel_rfl,?yq12⟩) hHeld ?rq12
        case yq12 =>
         intro w' hSw
         obtain ⟨hSw0,hSw1,hSw2,hSw3,hSw4,hSw5⟩:=hSw
         go_simp
         with_reducible rfl
        case rq12 =>
        simp only [List.set_cons_zero,List.set_cons_succ]
        refine take1 (i:=12) (v:=?vq13) rfl rfl (by kernel_rfl) (by kernel_rfl) (by kernel_rfl) (fun _ _ _ h => h) (Or.inl ⟨by kernel_rfl,?yq13⟩) hHeld ?rq13
        case yq13 =>
         intro w' hSw
         obtain ⟨hSw0,hSw1,hSw2,hSw3,hSw4,hSw5⟩:=hSw
         go_simp
         with_reducible rfl
        case rq13 =>
        simp only [List.set_cons_zero,List.set_cons_succ]
        refine take1 (i:=13) (v:=?vq14) rfl rfl (by kernel_rfl) (by kernel_rfl) (by kernel_rfl) (fun _ _ _ h => h) (Or.inl ⟨by kernel_rfl,?yq14⟩) hHeld ?rq14
        case yq14 =>
         intro w' hSw
         obtain ⟨hSw0,hSw1,hSw2,hSw3,hSw4,hSw5⟩:=hSw
         go_simp
         with_reducible rfl
        case rq14 =>
        simp only [List.set_cons_zero,List.set_cons_succ]
        refine take1 (i:=15) (v:=?vq15) rfl rfl (by kernel_rfl) (by kernel_rfl) (by kernel_rfl) (fun _ _ _ h => h) (Or.inl ⟨by kernel_rfl,?yq15⟩) hHeld ?rq15
        case yq15 =>
         intro w' hSw
         obtain ⟨hSw0,hSw1,hSw2,hSw3,hSw4,hSw5⟩:=hSw
         go_simp
         with_reducible rfl
        case rq15 =>
        simp only [List.set_cons_zero,List.set_cons_succ]
        refine take1 (i:=16) (v:=?vq16) rfl rfl (by kernel_rfl) (by kernel_rfl) (by kernel_rfl) (fun _ _ _ h => h) (Or.inl ⟨by kernel_rfl,?yq16⟩) hHeld ?rq16
        case yq16 =>
         intro w' hSw
         obtain ⟨hSw0,hSw1,hSw2,hSw3,hSw4,hSw5⟩:=hSw
         go_simp
         with_reducible rfl
        case rq16 =>
        simp only [List.set_cons_zero,List.set_cons_succ]
        refine take1 (i:=17) (v:=?vq17) rfl rfl (by kernel_rfl) (by kernel_rfl) (by kernel_rfl) (fun _ _ _ h => h) (Or.inl ⟨by kernel_rfl,?yq17⟩) hHeld ?rq17
        case yq17 =>
         intro w' hSw
         obtain ⟨hSw0,hSw1,hSw2,hSw3,hSw4,hSw5⟩:=hSw
         go_simp
         with_reducible rfl
        case rq17 =>
        simp only [List.set_cons_zero,List.set_cons_succ]
        refine take1 (i:=18) (v:=?vq18) rfl rfl (by kernel_rfl) (by kernel_rfl) (by kernel_rfl) (fun _ _ _ h => h) (Or.inl ⟨by kernel_rfl,?yq18⟩) hHeld ?rq18
        case yq18 =>
         intro w' hSw
         obtain ⟨hSw0,hSw1,hSw2,hSw3,hSw4,hSw5⟩:=hSw
         go_simp
         with_reducible rfl
        case rq18 =>
        simp only [List.set_cons_zero,List.set_cons_succ]
        refine take1 (i:=19) (v:=?vq19) rfl rfl (by kernel_rfl) (by kernel_rfl) (by kernel_rfl) (fun _ _ _ h => h) (Or.inl ⟨by kernel_rfl,?yq19⟩) hHeld ?rq19
        case yq19 =>
         intro w' hSw
         obtain ⟨hSw0,hSw1,hSw2,hSw3,hSw4,hSw5⟩:=hSw
         go_simp
         with_reducible rfl
        case rq19 =>
        simp only [List.set_cons_zero,List.set_cons_succ]
        refine ready1 (i:=14) (by kernel_rfl) rfl (by kernel_rfl) (fun K hK => ?_)
        go_simp
        refine (ft_num _ x0 x1 ok0).mono ?_
        rintro e wa ⟨hka,ua,rfl,fa⟩
        have KT:=KT.trans hka
        have KR:=KR.trans hka
        refine hK.out _ _ (sS.out _ KR) (fun hHeld => ?_)
        clear hK K hka
        refine ready1 (i:=20) (by kernel_rfl) rfl (by kernel_rfl) (fun K hK => ?_)
        go_simp
        refine (ft_num _ y0 y1 ok1).mono ?_
        rintro e wb ⟨hkb,ub,rfl,fb⟩
        have KT:=KT.trans hkb
        have KR:=KR.trans hkb
        have fa:=fa.kept hkb
        refine hK.out _ _ (sS.out _ KR) (fun hHeld => ?_)
        clear hK K hkb
        refine ready1 (i:=21) (by kernel_rfl) rfl (by kernel_rfl) (fun K hK => ?_)
        go_simp
        refine (ft_held _ fa fb (by decide)).mono ?_
        rintro e wd ⟨hkd,rfl⟩
        have KT:=KT.trans hkd
        have KR:=KR.trans hkd
        obtain ⟨ig,hig⟩:∃ ig,ig = isgn (U x0 x1) (U y0 y1):=⟨_,rfl⟩
        rw [← hig]
        have HIG:=hid' hig
        refine hK.out _ _ (sS.out _ KR) (fun hHeld => ?_)
        clear hK K hkd fa fb hig
        by_cases hg:0≤ig
        ·
         have hg':(0:Int)≤ig:=hg
         refine take1 (i:=22) (v:=?vq20) rfl rfl (by kernel_rfl) (by kernel_rfl) (by kernel_rfl) (fun _ _ _ h => h) (Or.inl ⟨by kernel_rfl,?yq20⟩) hHeld ?rq20
         case yq20 =>
          intro w' hSw
          obtain ⟨hSw0,hSw1,hSw2,hSw3,hSw4,hSw5⟩:=hSw
          go_simp
          with_reducible rfl
         case rq20 =>
         simp only [List.set_cons_zero,List.set_cons_succ]
         refine take1 (i:=23) (v:=?vq21) rfl rfl (by kernel_rfl) (by kernel_rfl) (by kernel_rfl) (fun _ _ _ h => h) (Or.inl ⟨by kernel_rfl,?yq21⟩) hHeld ?rq21
         case yq21 =>
          intro w' hSw
          obtain ⟨hSw0,hSw1,hSw2,hSw3,hSw4,hSw5⟩:=hSw
          go_simp
          with_reducible rfl
         case rq21 =>
         simp only [List.set_cons_zero,List.set_cons_succ]
         refine wpAnyH_done (by kernel_rfl) ?_ _
         have HT:=hid' KT
         clear sS hHeld KR KT
         go_wp2_with fail
         go_ret
         refine ⟨HB.out.1.trans HT.out,congrArg (fun b => Ending.returned (Value.bool b)) ?_⟩
         symm
         rw [Bool.eq_false_iff]
         intro hok
         have hr:=(okM_all hok).2.2.1
         unfold riseN at hr
         have:=of_decide_eq_true hr j (by have:=HL.out; omega)
         rw [← HX.out.1,← HX.out.2] at this
         have h2:=HIG.out
         have h3:=isgn_neg (a:=U x0 x1) (b:=U y0 y1)
         dsimp only at this
         rw [← h2] at h3
         have:=h3.2 this
         omega
        ·
         have hg':¬ (0:Int)≤ig:=hg
         refine take1 (i:=22) (v:=?vq22) rfl rfl (by kernel_rfl) (by kernel_rfl) (by kernel_rfl) (fun _ _ _ h => h) (Or.inl ⟨by kernel_rfl,?yq22⟩) hHeld ?rq22
         case yq22 =>
          intro w' hSw
          obtain ⟨hSw0,hSw1,hSw2,hSw3,hSw4,hSw5⟩:=hSw
          go_simp
          with_reducible rfl
         case rq22 =>
         simp only [List.set_cons_zero,List.set_cons_succ]
         refine take1 (i:=23) (v:=?vq23) rfl rfl (by kernel_rfl) (by kernel_rfl) (by kernel_rfl) (fun _ _ _ h => h) (Or.inl ⟨by kernel_rfl,?yq23⟩) hHeld ?rq23
         case yq23 =>
          intro w' hSw
          obtain ⟨hSw0,hSw1,hSw2,hSw3,hSw4,hSw5⟩:=hSw
          go_simp
          with_reducible rfl
         case rq23 =>
         simp only [List.set_cons_zero,List.set_cons_succ]
         refine wpAnyH_done (by kernel_rfl) ?_ _
         have HT:=hid' KT
         clear sS hHeld KR KT
         have HIL:=hid' (show U x0 x1 < U y0 y1 by
          have h2:=HIG.out
          have h3:=isgn_neg (a:=U x0 x1) (b:=U y0 y1)
          rw [← h2] at h3
          exact h3.1 (by omega))
         go_wp2_with fail
         go_roundw
         case rel =>
          refine ⟨j + 1 + 1,by omega,by push_cast; go_num,HT.out,fun i hi => ?_,fun hk i hi => ?_⟩
          ·
           by_cases e:i = j + 1
           ·
            subst e; exact HO1.out
           ·
            exact H.out.2.1 i (by omega)
          ·
           by_cases e:i = j
           ·
            subst e
            rw [← HX.out.1,← HX.out.2]
            exact HIL.out
           ·
            exact H.out.2.2 hk i (by omega)
         case measure => show m - ((j:Int) + 1 + 1).toNat < m - ((j:Int) + 1).toNat; omega
      ·
       have hkb:(k == 100) = false:=by simpa using hkd
       have KR:Kept W7 W7.drew:=(Kept.refl _).drew
       have e1:=(HB.out.2.kept HK7.out).c1
       have hml:=(HB.out.2.kept HK7.out).lt
       have sS:=hid' (fun (V:World) (K:Kept W7 V) => (show V.cell? ⟨p,1,none⟩ = some (.int .u8 k) from (Below.cell K (p:=⟨p,1,none⟩) hml).trans e1))
       clear e1 hml
       go_upto_region 13 with fail
       refine wp_region_held_drew (S:=fun w' => w'.cell? ⟨p,1,none⟩ = some (.int .u8 k)) (by kernel_rfl) (sS.out _ KR) (fun hHeld => ?_)
       generalize W7.drew = Wd at KR hHeld ⊢
       refine take1 (i:=0) (v:=?vzi3) rfl rfl (by kernel_rfl) (by kernel_rfl) (by kernel_rfl) (fun _ _ _ h => h) (Or.inl ⟨by kernel_rfl,?yzi3⟩) hHeld ?rzi3
       case yzi3 =>
        intro w' hSw
        have hSw0:=hSw
        go_simp
        with_reducible rfl
       case rzi3 =>
       simp only [List.set_cons_zero,List.set_cons_succ]
       refine take1 (i:=1) (v:=?vzi4) rfl rfl (by kernel_rfl) (by kernel_rfl) (by kernel_rfl) (fun _ _ _ h => h) (Or.inl ⟨by kernel_rfl,?yzi4⟩) hHeld ?rzi4
       case yzi4 =>
        intro w' hSw
        have hSw0:=hSw
        go_simp
        with_reducible rfl
       case rzi4 =>
       simp only [List.set_cons_zero,List.set_cons_succ]
       refine take1 (i:=2) (v:=?vzi5) rfl rfl (by kernel_rfl) (by kernel_rfl) (by kernel_rfl) (fun _ _ _ h => h) (Or.inl ⟨by kernel_rfl,?yzi5⟩) hHeld ?rzi5
       case yzi5 =>
        intro w' hSw
        have hSw0:=hSw
        go_simp
        with_reducible rfl
       case rzi5 =>
       simp only [List.set_cons_zero,List.set_cons_succ]
       refine take1 (i:=3) (v:=?vzi6) rfl rfl (by kernel_rfl) (by kernel_rfl) (by kernel_rfl) (fun _ _ _ h => h) (Or.inl ⟨by kernel_rfl,?yzi6⟩) hHeld ?rzi6
       case yzi6 =>
        intro w' hSw
        have hSw0:=hSw
        go_simp
        with_reducible rfl
       case rzi6 =>
       simp only [List.set_cons_zero,List.set_cons_succ]
       refine take1 (i:=4) (v:=undef) rfl rfl (by kernel_rfl) (by kernel_rfl) (by kernel_rfl) (fun _ _ _ h => h) (Or.inr ⟨by kernel_rfl,rfl⟩) hHeld ?rzi1
       case rzi1 =>
       simp only [List.set_cons_zero,List.set_cons_succ]
       refine take1 (i:=5) (v:=undef) rfl rfl (by kernel_rfl) (by kernel_rfl) (by kernel_rfl) (fun _ _ _ h => h) (Or.inr ⟨by kernel_rfl,rfl⟩) hHeld ?rzi2
       case rzi2 =>
       simp only [List.set_cons_zero,List.set_cons_succ]
       refine take1 (i:=6) (v:=?vzi7) rfl rfl (by kernel_rfl) (by kernel_rfl) (by kernel_rfl) (fun _ _ _ h => h) (Or.inl ⟨by kernel_rfl,?yzi7⟩) hHeld ?rzi7
       case yzi7 =>
        intro w' hSw
        have hSw0:=hSw
        go_simp
        with_reducible rfl
       case rzi7 =>
       simp only [List.set_cons_zero,List.set_cons_succ]
       refine take1 (i:=7) (v:=?vzi8) rfl rfl (by kernel_rfl) (by kernel_rfl) (by kernel_rfl) (fun _ _ _ h => h) (Or.inl ⟨by kernel_rfl,?yzi8⟩) hHeld ?rzi8
       case yzi8 =>
        intro w' hSw
        have hSw0:=hSw
        go_simp
        with_reducible rfl
       case rzi8 =>
       simp only [List.set_cons_zero,List.set_cons_succ]
       refine take1 (i:=8) (v:=undef) rfl rfl (by kernel_rfl) (by kernel_rfl) (by kernel_rfl) (fun _ _ _ h => h) (Or.inr ⟨by kernel_rfl,rfl⟩) hHeld ?rzi9
       case rzi9 =>
       simp only [List.set_cons_zero,List.set_cons_succ]
       refine take1 (i:=9) (v:=undef) rfl rfl (by kernel_rfl) (by kernel_rfl) (by kernel_rfl) (fun _ _ _ h => h) (Or.inr ⟨by kernel_rfl,rfl⟩) hHeld ?rzi10
       case rzi10 =>
       simp only [List.set_cons_zero,List.set_cons_succ]
       refine take1 (i:=10) (v:=undef) rfl rfl (by kernel_rfl) (by kernel_rfl) (by kernel_rfl) (fun _ _ _ h => h) (Or.inr ⟨by kernel_rfl,rfl⟩) hHeld ?rzi11
       case rzi11 =>
       simp only [List.set_cons_zero,List.set_cons_succ]
       refine take1 (i:=11) (v:=undef) rfl rfl (by kernel_rfl) (by kernel_rfl) (by kernel_rfl) (fun _ _ _ h => h) (Or.inr ⟨by kernel_rfl,rfl⟩) hHeld ?rzi12
       case rzi12 =>
       simp only [List.set_cons_zero,List.set_cons_succ]
       refine take1 (i:=12) (v:=undef) rfl rfl (by kernel_rfl) (by kernel_rfl) (by kernel_rfl) (fun _ _ _ h => h) (Or.inr ⟨by kernel_rfl,rfl⟩) hHeld ?rzi13
       case rzi13 =>
       simp only [List.set_cons_zero,List.set_cons_succ]
       refine take1 (i:=13) (v:=undef) rfl rfl (by kernel_rfl) (by kernel_rfl) (by kernel_rfl) (fun _ _ _ h => h) (Or.inr ⟨by kernel_rfl,rfl⟩) hHeld ?rzi14
       case rzi14 =>
       simp only [List.set_cons_zero,List.set_cons_succ]
       refine take1 (i:=14) (v:=undef) rfl rfl (by kernel_rfl) (by kernel_rfl) (by kernel_rfl) (fun _ _ _ h => h) (Or.inr ⟨by kernel_rfl,rfl⟩) hHeld ?rzi15
       case rzi15 =>
       simp only [List.set_cons_zero,List.set_cons_succ]
       refine take1 (i:=15) (v:=undef) rfl rfl (by kernel_rfl) (by kernel_rfl) (by kernel_rfl) (fun _ _ _ h => h) (Or.inr ⟨by kernel_rfl,rfl⟩) hHeld ?rzi16
       case rzi16 =>
       simp only [List.set_cons_zero,List.set_cons_succ]
       refine take1 (i:=16) (v:=undef) rfl rfl (by kernel_rfl) (by kernel_rfl) (by kernel_rfl) (fun _ _ _ h => h) (Or.inr ⟨by kernel_rfl,rfl⟩) hHeld ?rzi17
       case rzi17 =>
       simp only [List.set_cons_zero,List.set_cons_succ]
       refine take1 (i:=17) (v:=undef) rfl rfl (by kernel_rfl) (by kernel_rfl) (by kernel_rfl) (fun _ _ _ h => h) (Or.inr ⟨by kernel_rfl,rfl⟩) hHeld ?rzi18
       case rzi18 =>
       simp only [List.set_cons_zero,List.set_cons_succ]
       refine take1 (i:=18) (v:=undef) rfl rfl (by kernel_rfl) (by kernel_rfl) (by kernel_rfl) (fun _ _ _ h => h) (Or.inr ⟨by kernel_rfl,rfl⟩) hHeld ?rzi19
       case rzi19 =>
       simp only [List.set_cons_zero,List.set_cons_succ]
       refine take1 (i:=19) (v:=undef) rfl rfl (by kernel_rfl) (by kernel_rfl) (by kernel_rfl) (fun _ _ _ h => h) (Or.inr ⟨by kernel_rfl,rfl⟩) hHeld ?rzi20
       case rzi20 =>
       simp only [List.set_cons_zero,List.set_cons_succ]
       refine take1 (i:=20) (v:=undef) rfl rfl (by kernel_rfl) (by kernel_rfl) (by kernel_rfl) (fun _ _ _ h => h) (Or.inr ⟨by kernel_rfl,rfl⟩) hHeld ?rzi21
       case rzi21 =>
       simp only [List.set_cons_zero,List.set_cons_succ]
       refine take1 (i:=21) (v:=undef) rfl rfl (by kernel_rfl) (by kernel_rfl) (by kernel_rfl) (fun _ _ _ h => h) (Or.inr ⟨by kernel_rfl,rfl⟩) hHeld ?rzi22
       case rzi22 =>
       simp only [List.set_cons_zero,List.set_cons_succ]
       refine take1 (i:=22) (v:=undef) rfl rfl (by kernel_rfl) (by kernel_rfl) (by kernel_rfl) (fun _ _ _ h => h) (Or.inr ⟨by kernel_rfl,rfl⟩) hHeld ?rzi23
       case rzi23 =>
       simp only [List.set_cons_zero,List.set_cons_succ]
       refine take1 (i:=23) (v:=?vzi24) rfl rfl (by kernel_rfl) (by kernel_rfl) (by kernel_rfl) (fun _ _ _ h => h) (Or.inl ⟨by kernel_rfl,?yzi24⟩) hHeld ?rzi24
       case yzi24 =>
        intro w' hSw
        have hSw0:=hSw
        go_simp
        with_reducible rfl
       case rzi24 =>
       simp only [List.set_cons_zero,List.set_cons_succ]
       refine wpAnyH_done (by kernel_rfl) ?_ _
       have HKR:=hid' KR
       clear sS hHeld KR
       go_wp2_with fail
       go_roundw
       case rel =>
        refine ⟨i + 1,by omega,by go_num,HK7.out.trans HKR.out,(fun l hl => ?_),fun h => absurd h hkd⟩
        by_cases e:l = i
        ·
         subst e; exact HO1'.out.symm
        ·
         exact H.out.2.1 l (by omega)
       case measure => show m - ((i:Int) + 1).toNat < m - (i:Int).toNat; omega
    ·
     obtain rfl:i = m:=by omega
     have hltm:¬ (i:Int) < (i:Int):=by omega
     have HV:=hid' (And.intro (fun l (hl:l < vs.length) => H.out.2.1 l (by have:=HL.out; omega)) (fun (hk:k = 100) l (hl:l < vs.length - 1) => H.out.2.2 hk l (by have:=HL.out; omega)))
     have HB:=hid' (And.intro (HB.out.1.trans H.out.1) (HB.out.2.kept H.out.1))
     have HA:=hid' (show okM s.data.toList k gs vs = (fitsM k j i && riseN vs) by
      unfold okM
      rw [← HB1.out,← HL.out.1,← HL.out.2,allN_of HG.out,allN_of HV.out.1]
      simp)
     have HR:=hid' (fun (hk:k = 100) => (show riseN vs = true from decide_eq_true (HV.out.2 hk)))
     clear H hlt HV
     have e1:=HB.out.2.c1
     have e2:=HB.out.2.c2
     by_cases hk1:k = 115
     ·
      have hkb:(k == 115) = true:=by simpa using hk1
      by_cases hn2:j = 2
      ·
       have hn2':(((j:Nat):Int) == 2) = true:=by simp [hn2]
       by_cases hm1:i = 1
       ·
        have hm1':(((i:Nat):Int) == 1) = true:=by simp [hm1]
        have HF:=hid' (show okM s.data.toList k gs vs = true by
         rw [HA.out]
         have:riseN vs = true:=decide_eq_true (fun l hl => by have:=HL.out; omega)
         rw [this]; unfold fitsM; rw [if_neg (by omega),if_pos hk1]; simp [hn2,hm1])
        clear hn2 hm1 hk1
        go_wp2_with fail
        go_ret
        exact ⟨HB.out.1,by rw [HF.out]; rfl⟩
       ·
        have hm1':(((i:Nat):Int) == 1) = false:=by simp; omega
        have HF:=hid' (show okM s.data.toList k gs vs = false by
         rw [HA.out]; unfold fitsM; rw [if_neg (by omega),if_pos hk1]; simp [hm1])
        clear hn2 hm1 hk1
        go_wp2_with fail
        go_ret
        exact ⟨HB.out.1,by rw [HF.out]; rfl⟩
      ·
       have hn2':(((j:Nat):Int) == 2) = false:=by simp; omega
       have HF:=hid' (show okM s.data.toList k gs vs = false by
        rw [HA.out]; unfold fitsM; rw [if_neg (by omega),if_pos hk1]; simp [hn2])
       clear hn2 hk1
       go_wp2_with fail
       go_ret
       exact ⟨HB.out.1,by rw [HF.out]; rfl⟩
     ·
      have hkb:(k == 115) = false:=by simpa using hk1
      by_cases hk2:k = 100
      ·
       have hkb2:(k == 100) = true:=by simpa using hk2
       have HRT:=hid' (HR.out hk2)
       by_cases g1:1≤j
       ·
        have g1':(1:Int)≤(j:Int):=by omega
        by_cases g2:j≤4
        ·
         have g2':(j:Int)≤4:=by omega
         by_cases g3:i + 1 = j
         ·
          have g3':((i:Int) + 1 == (j:Int)) = true:=by simp; omega
          have HF:=hid' (show okM s.data.toList k gs vs = true by
           rw [HA.out,HRT.out]; unfold fitsM; rw [if_pos hk2]; simp; omega)
          clear g1 g2 g3 hk1 hk2
          go_wp2_with fail
          go_ret
          exact ⟨HB.out.1,by rw [HF.out]; rfl⟩
         ·
          have g3':((i:Int) + 1 == (j:Int)) = false:=by simp; omega
          have HF:=hid' (show okM s.data.toList k gs vs = false by
           rw [HA.out,HRT.out]; unfold fitsM; rw [if_pos hk2]; simp; omega)
          clear g1 g2 g3 hk1 hk2
          go_wp2_with fail
          go_ret
          exact ⟨HB.out.1,by rw [HF.out]; rfl⟩
        ·
         have g2':¬ (j:Int)≤4:=by omega
         have HF:=hid' (show okM s.data.toList k gs vs = false by
          rw [HA.out,HRT.out]; unfold fitsM; rw [if_pos hk2]; simp; omega)
         clear g1 g2 hk1 hk2
         go_wp2_with fail
         go_ret
         exact ⟨HB.out.1,by rw [HF.out]; rfl⟩
       ·
        have g1':¬ (1:Int)≤(j:Int):=by omega
        have HF:=hid' (show okM s.data.toList k gs vs = false by
         rw [HA.out,HRT.out]; unfold fitsM; rw [if_pos hk2]; simp; omega)
        clear g1 hk1 hk2
        go_wp2_with fail
        go_ret
        exact ⟨HB.out.1,by rw [HF.out]; rfl⟩
      ·
       have hkb2:(k == 100) = false:=by simpa using hk2
       have HF:=hid' (show okM s.data.toList k gs vs = false by
        rw [HA.out]; unfold fitsM; rw [if_neg hk2,if_neg hk1]; rfl)
       clear hk1 hk2
       go_wp2_with fail
       go_ret
       exact ⟨HB.out.1,by rw [HF.out]; rfl⟩
end V
end Go.Proofs.YtembglnonhlnkaaGreatDoor

namespace Go.Proofs.YtembglnonhlnkaaGreatDoor
open Go.RowKit
namespace V
open Q (okN okN_bd Scl RQ hid' Row3 Row2)
theorem RT.put4 {B p:Nat} {w:World} {v:Value} {A:Int} {S:Nat} {y0 y1 y2 y3:Value} (h:RT B w v A S) (hr:F.RRow w p y0 y1 y2 y3) (x0 x1 x2 x3:Value):RT B (Q.put4 w p x0 x1 x2 x3) v A S:=RT.set4 h hr x0 x1 x2 x3
theorem NSl.at {w:World} {ao:Option Addr} {n c:Nat} {l:List (Int × Int)} (h:NSl w (.slice ao n c) l) {j:Nat} (hj:j < n):∃ b off,ao = some ⟨b,off,none⟩∧b < w.heap.size∧∀ i,i < n→w.cell? ⟨b,off + i * 2,none⟩ = some (.int .i64 (l.getD i (0,0)).1)∧w.cell? ⟨b,off + i * 2 + 1,none⟩ = some (.int .i64 (l.getD i (0,0)).2):=by
 have hl:=h.len
 obtain ⟨ao',cap',hv,hx⟩:=h
 simp only [Value.slice.injEq] at hv
 obtain ⟨rfl,hq',rfl⟩:=hv
 obtain ⟨b,off,rfl,hb,hc⟩:=hx (by omega)
 exact ⟨b,off,rfl,hb,fun i hi => hc i (by omega)⟩
end V
end Go.Proofs.YtembglnonhlnkaaGreatDoor

namespace Go.Proofs.YtembglnonhlnkaaGreatDoor
open Go.RowKit
namespace V
open Q (okN okN_bd Scl RQ hid' Row3 Row2)
def jmp (gs vs:List (Int × Int)) (i:Nat):Int:=(U (gs.getD i (0,0)).1 (gs.getD i (0,0)).2 - U (gs.getD (i + 1) (0,0)).1 (gs.getD (i + 1) (0,0)).2) * (U (vs.getD i (0,0)).1 (vs.getD i (0,0)).2 * 10 ^ 27)
def ownS (gs vs:List (Int × Int)):Nat→Int
 | 0 => 0
 | k + 1 => ownS gs vs k + jmp gs vs k
def ownK (kd:Int) (gs vs:List (Int × Int)) (k:Nat):Int:=if kd = 115 then 0 else ownS gs vs k
end V
end Go.Proofs.YtembglnonhlnkaaGreatDoor

namespace Go.Proofs.YtembglnonhlnkaaGreatDoor
open Go.RowKit
namespace V
open Q (okN okN_bd Scl RQ hid' Row3 Row2)
def PartIs (B:Nat) (w':World) (e:Ending) (rf kd:Int) (gs vs:List (Int × Int)) (i:Int):Prop :=
 (¬ rf = 0∧e = .returned (.tuple #[.agg #[.bool false,.slice none 0 0,.bool false,.slice none 0 0],.agg #[.bool false,.slice none 0 0,.bool false,.slice none 0 0],.int .i64 rf])) ∨ (rf = 0∧∃ u v,e = .returned (.tuple #[u,v,.int .i64 0])∧RT B w' u (U (gs.getD i.toNat (0,0)).1 (gs.getD i.toNat (0,0)).2) (10 ^ 18)∧RT B w' v (ownK kd gs vs i.toNat) (10 ^ 54))
end V
end Go.Proofs.YtembglnonhlnkaaGreatDoor

namespace Go.Proofs.YtembglnonhlnkaaGreatDoor
open Go.RowKit
namespace V
open Q (hid' Row3 Row2 okN)
set_option maxRecDepth 100000 in
set_option maxHeartbeats 4000000 in
theorem same3_any (a b:Option Addr) (n c c':Nat) (vs:List (Int × Int)) (w:World) (h1:NSl w (.slice a n c) vs) (h2:NSl w (.slice b n c') vs) (hn:n≤9223372036854775807) :
  Calls Tryz.prog 46 #[.slice a n c,.slice b n c'] w fun e w' => Kept w w'∧e = .returned (.bool true):=by
 have HS:=hid' (And.intro h1 h2)
 clear h1 h2
 go_enter Tryz.func46,Tryz.ntmps46
 go_wp2_with fail
 go_loopw [5] (fun vi wr => ∃ j:Nat,j≤n∧vi = .int .i64 (j:Int)∧Hid (Kept w wr)) (fun vi _ => n - (intOf vi).toNat)
 case atStart => exact ⟨0,Nat.zero_le _,rfl,Kept.refl w⟩
 case round =>
  obtain ⟨j,hj,rfl,I⟩:=hrel
  by_cases hlt:j < n
  ·
   have hltz:(j:Int) < (n:Int):=by omega
   obtain ⟨ao1,cap1,hv1,hx1⟩:=HS.out.1.kept I.out
   simp only [Value.slice.injEq] at hv1
   obtain ⟨rfl,hl1,rfl⟩:=hv1
   obtain ⟨b1,o1,rfl,hb1,hc1⟩:=hx1 (by omega)
   obtain ⟨ao2,cap2,hv2,hx2⟩:=HS.out.2.kept I.out
   simp only [Value.slice.injEq] at hv2
   obtain ⟨rfl,hl2,rfl⟩:=hv2
   obtain ⟨b2,o2,rfl,hb2,hc2⟩:=hx2 (by omega)
   obtain ⟨u0,u1⟩:=hc1 j (by omega)
   obtain ⟨v0,v1⟩:=hc2 j (by omega)
   clear hx1 hc1 hb1 hl1 hx2 hc2 hb2 hl2
   generalize vs.getD j (0,0) = y at u0 u1 v0 v1
   obtain ⟨y0,y1⟩:=y
   dsimp only at u0 u1 v0 v1
   go_wp2_with fail
   go_quiet (fail)
   go_wp2_with fail
   go_roundw
   case rel => exact ⟨j + 1,by omega,by go_num,I.out.drewN _⟩
   case measure => show n - ((j:Int) + 1).toNat < n - (j:Int).toNat; omega
  ·
   obtain rfl:j = n:=by omega
   have hltz:¬ (j:Int) < (j:Int):=by omega
   go_wp2_with fail
   go_ret
   exact ⟨I.out,rfl⟩
set_option maxRecDepth 100000 in
set_option maxHeartbeats 4000000 in
theorem same5_any (s:ByteArray) (k:Int) (a1 a2 b1 b2:Option Addr) (n c m c' d d':Nat) (gs vs:List (Int × Int)) (w:World) (h1:NSl w (.slice a1 n c) gs) (h2:NSl w (.slice a2 m c') vs) (h3:NSl w (.slice b1 n d) gs) (h4:NSl w (.slice b2 m d') vs) (hn:n≤4611686018427387903) (hm:m≤4611686018427387903) :
  Calls Tryz.prog 20 #[.agg #[.string s,.int .u8 k,.slice a1 n c,.slice a2 m c'],.agg #[.string s,.int .u8 k,.slice b1 n d,.slice b2 m d']] w fun e w' => Kept w w'∧e = .returned (.bool true):=by
 have HS:=hid' (And.intro h1 (And.intro h2 (And.intro h3 h4)))
 clear h1 h2 h3 h4
 go_enter Tryz.func20,Tryz.ntmps20
 go_upto_region 1 with fail
 have hA:=(Row4.alloc 43 w (.string s) (.int .u8 k) (.slice a1 n c) (.slice a2 m c')).kept ((Kept.refl (w.alloc (.cells #[.string s,.int .u8 k,.slice a1 n c,.slice a2 m c'] 43))).alloc (.cells #[.string s,.int .u8 k,.slice b1 n d,.slice b2 m d'] 43))
 have hB:=Row4.alloc 43 (w.alloc (.cells #[.string s,.int .u8 k,.slice a1 n c,.slice a2 m c'] 43)) (.string s) (.int .u8 k) (.slice b1 n d) (.slice b2 m d')
 have hK:=(((Kept.refl w).alloc (.cells #[.string s,.int .u8 k,.slice a1 n c,.slice a2 m c'] 43)).alloc (.cells #[.string s,.int .u8 k,.slice b1 n d,.slice b2 m d'] 43))
 simp only [World.size_alloc] at hB
 generalize (w.alloc (.cells #[.string s,.int .u8 k,.slice a1 n c,.slice a2 m c'] 43)).alloc (.cells #[.string s,.int .u8 k,.slice b1 n d,.slice b2 m d'] 43) = W at hA hB hK ⊢
 obtain ⟨q,hqq⟩:∃ q,q = w.heap.size + 1:=⟨_,rfl⟩
 rw [← hqq] at hB ⊢
 obtain ⟨p,hqp⟩:∃ q,q = w.heap.size:=⟨_,rfl⟩
 rw [← hqp] at hA ⊢
 clear hqp hqq
 have HK:=hid' (And.intro hK (And.intro hA hB))
 have u0:=hA.c0
 have u1:=hA.c1
 have u2:=hA.c2
 have v0:=hB.c0
 have v1:=hB.c1
 have v2:=hB.c2
 clear hK hA hB
 go_wp2_with fail
 refine (same3_any _ _ n _ _ gs _ (HS.out.1.kept HK.out.1) (HS.out.2.2.1.kept HK.out.1) (by omega)).mono ?_
 rintro e w1 ⟨hk1,rfl⟩
 have HK:=hid' (And.intro (HK.out.1.trans hk1) (And.intro (HK.out.2.1.kept hk1) (HK.out.2.2.kept hk1)))
 clear hk1 u0 u1 u2 v0 v1 v2
 have u3:=HK.out.2.1.c3
 have v3:=HK.out.2.2.c3
 go_wp2_with fail
 refine (same3_any _ _ m _ _ vs _ (HS.out.2.1.kept HK.out.1) (HS.out.2.2.2.kept HK.out.1) (by omega)).mono ?_
 rintro e w2 ⟨hk2,rfl⟩
 have HK:=hid' (HK.out.1.trans hk2)
 clear hk2 u3 v3
 go_wp2_with fail
 go_ret
 exact ⟨HK.out,rfl⟩
end V
end Go.Proofs.YtembglnonhlnkaaGreatDoor
