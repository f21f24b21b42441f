/- Lemmas. -/
import Derived.Test.YthfbfbfambbkaaaGreatDoorOb
import Derived.Test.YthfbfbfambbkaaaGreatDoorGar
import Derived.Lib.QuietBelow
import Derived.Deep.QuietTactic
import Derived.BigQuiet
import Derived.Test.YthfbfbfambbkaaaGreatDoorTk
namespace Go.Proofs.YthfbfbfambbkaaaGreatDoor
open Go.RowKit
open Go.Sort (grow)
namespace V
open Q (hid' Row3 Row2 okN)
def Row4 (t:TypeId) (w:World) (p:Nat) (x0 x1 x2 x3:Value):Prop:=w.rowIs p t 4 (fun i => if i = 0 then x0 else if i = 1 then x1 else if i = 2 then x2 else x3)
theorem Row4.alloc (t:TypeId) (w:World) (x0 x1 x2 x3:Value):Row4 t (w.alloc (.cells #[x0,x1,x2,x3] t)) w.heap.size x0 x1 x2 x3 :=
 World.rowIs_alloc w #[x0,x1,x2,x3] t _ (fun i hi => by
  match i,hi with
  | 0,_ => rfl
  | 1,_ => rfl
  | 2,_ => rfl
  | 3,_ => rfl)
section
variable {t:TypeId} {w w':World} {p:Nat} {x0 x1 x2 x3:Value}
theorem Row4.lt (h:Row4 t w p x0 x1 x2 x3):p < w.heap.size:=World.rowIs.lt h
theorem Row4.c0 (h:Row4 t w p x0 x1 x2 x3):w.cell? ⟨p,0,none⟩ = some x0:=World.rowIs.cell h (i:=0) (by omega)
theorem Row4.c1 (h:Row4 t w p x0 x1 x2 x3):w.cell? ⟨p,1,none⟩ = some x1:=World.rowIs.cell h (i:=1) (by omega)
theorem Row4.c2 (h:Row4 t w p x0 x1 x2 x3):w.cell? ⟨p,2,none⟩ = some x2:=World.rowIs.cell h (i:=2) (by omega)
theorem Row4.c3 (h:Row4 t w p x0 x1 x2 x3):w.cell? ⟨p,3,none⟩ = some x3:=World.rowIs.cell h (i:=3) (by omega)
theorem Row4.kept (h:Row4 t w p x0 x1 x2 x3) (k:Kept w w'):Row4 t w' p x0 x1 x2 x3:=World.rowIs.of_block h (k.block p h.lt)
end
def fitsM (k:Int) (n m:Nat):Bool:=if k = 100 then decide (n = m + 1/\n<=4) else if k = 115 then decide (n = 2/\m = 1) else false
def riseN (vs:List (Int × Int)):Bool:=decide (∀ i,i < vs.length - 1->U (vs.getD i (0,0)).1 (vs.getD i (0,0)).2 < U (vs.getD (i + 1) (0,0)).1 (vs.getD (i + 1) (0,0)).2)
def allN (l:List (Int × Int)):Bool:=!(l.any fun q => !okN q.1 q.2)
def okM (s:List UInt8) (k:Int) (gs vs:List (Int × Int)):Bool:=okName s && fitsM k gs.length vs.length && allN gs && allN vs && riseN vs
set_option maxHeartbeats 4000000 in
theorem fitsM_any (s:ByteArray) (k:Int) (a1 a2:Option Addr) (n c m c':Nat) (w:World) (hm:m<=4611686018427387903) :
  Calls Tryz.prog 45 #[.agg #[.string s,.int .u8 k,.slice a1 n c,.slice a2 m c']] w fun e w' => Kept w w'/\e = .returned (.bool (fitsM k n m)):=by
 go_enter Tryz.func45,Tryz.ntmps45
 go_upto_region 1 with fail
 have hK:=(Kept.refl w).alloc (.cells #[.string s,.int .u8 k,.slice a1 n c,.slice a2 m c'] 24)
 have hR:=Row4.alloc 24 w (.string s) (.int .u8 k) (.slice a1 n c) (.slice a2 m c')
 generalize w.alloc (.cells #[.string s,.int .u8 k,.slice a1 n c,.slice a2 m c'] 24) = W at hK hR ⊢
 obtain ⟨p1,hp1⟩:∃ p,p = w.heap.size:=⟨_,rfl⟩
 rw [<- hp1] at hR ⊢
 have HK:=hid' hK
 have q1:=hR.c1
 have q2:=hR.c2
 have q3:=hR.c3
 clear hp1 hK hR
 have hw:IntKind.i64.wrap ((m:Int) + 1) = (m:Int) + 1:=by rw [IntKind.wrap_i64]; omega
 by_cases h1:k = 100
 ·
  subst h1
  go_wp2_with fail
  all_goals
   go_ret
   refine ⟨HK.out,congrArg (fun b => Ending.returned (Value.bool b)) ?_⟩
   unfold fitsM
   rw [if_pos rfl,Bool.eq_iff_iff]
   simp_all
   try omega
 ·
  have h1':(k == 100) = false:=by simpa using h1
  by_cases h2:k = 115
  ·
   subst h2
   go_wp2_with fail
   all_goals
    go_ret
    refine ⟨HK.out,congrArg (fun b => Ending.returned (Value.bool b)) ?_⟩
    unfold fitsM
    rw [if_neg (by decide),if_pos rfl,Bool.eq_iff_iff]
    simp_all
    try omega
  ·
   have h2':(k == 115) = false:=by simpa using h2
   go_wp2_with fail
   go_ret
   exact ⟨HK.out,by unfold fitsM; rw [if_neg h1,if_neg h2]; rfl⟩
set_option maxHeartbeats 4000000 in
theorem right1 (m x:Int) (w:World):Calls Tryz.prog 86 #[.agg #[.int .i64 m,.int .i64 x]] w fun e w' => e = .returned (.bool (!okN m x))/\Kept w w':=by
 go_enter Tryz.func86,Tryz.ntmps86
 go_wp2_with (go_at_call 54; refine (Q.Valid_any m x _).mono ?_; rintro e w' ⟨hk,rfl⟩)
 go_ret
 exact ⟨rfl,((Kept.refl w).alloc _).trans hk⟩
set_option maxHeartbeats 4000000 in
theorem allRight_any (ao:Option Addr) (n c:Nat) (l:List (Int × Int)) (w:World) (h:NSl w (.slice ao n c) l) (hn:n<=9223372036854775807) :
  Calls Tryz.prog 46 #[.slice ao n c] w fun e w' => Kept w w'/\e = .returned (.bool (allN l)):=by
 have HS:=hid' h
 clear h
 have HA:=hid' (show allN l = !(l.any fun q => !okN q.1 q.2) from rfl)
 generalize allN l = ok at HA ⊢
 go_enter Tryz.func46,Tryz.ntmps46
 go_wp2_with fail
 refine (con_nums 86 #[] (fun x y => !okN x y) (fun _ _ => by simp) ao n c l w (fun V x y hV => (right1 x y V).mono fun e w' h => ⟨h.1,hV.trans h.2⟩) HS.out hn).mono ?_
 rintro e w' ⟨hk,rfl⟩
 have HN:=hid' hk
 clear hk
 obtain ⟨b,hb⟩:∃ b,b = l.any (fun q => !okN q.1 q.2):=⟨_,rfl⟩
 rw [<- hb]
 have HO2:=hid' (show ok = !b by rw [HA.out,hb])
 clear hb HA
 go_wp2_with fail
 go_ret
 exact ⟨HN.out,by rw [HO2.out]; rfl⟩
end V
end Go.Proofs.YthfbfbfambbkaaaGreatDoor
namespace Go.Proofs.YthfbfbfambbkaaaGreatDoor
open Go.RowKit
open Go.Sort (grow)
namespace V
open Q (hid' Row3 Row2 okN okN_bd Scl)
theorem isgn_terms {N N' A A':Int} {D D' S:Nat} (hD:0 < D) (hD':0 < D') (hS:0 < S) (h:N * (S:Int) = A * D) (h':N' * (S:Int) = A' * D'):isgn (N * D') (N' * D) = isgn A A':=by
 have pS:(0:Int) < S:=by omega
 have pD:(0:Int) < (D:Int) * D':=Int.mul_pos (by omega) (by omega)
 have e1:N * D' * S = A * ((D:Int) * D'):=by rw [Int.mul_right_comm,h,Int.mul_assoc]
 have e2:N' * D * S = A' * ((D:Int) * D'):=by rw [Int.mul_right_comm,h',Int.mul_assoc,Int.mul_comm (D':Int)]
 apply F.isgn_eq
 ·
  constructor
  ·
   intro hlt
   have:=Int.mul_lt_mul_of_pos_right hlt pS
   rw [e1,e2] at this
   exact Int.lt_of_mul_lt_mul_right this (Int.le_of_lt pD)
  ·
   intro hlt
   have:=Int.mul_lt_mul_of_pos_right hlt pD
   rw [<- e1,<- e2] at this
   exact Int.lt_of_mul_lt_mul_right this (Int.le_of_lt pS)
 ·
  constructor
  ·
   intro heq
   have:A * ((D:Int) * D') = A' * ((D:Int) * D'):=by rw [<- e1,<- e2,heq]
   exact Int.eq_of_mul_eq_mul_right (by omega) this
  ·
   intro heq
   have:N * D' * S = N' * D * S:=by rw [e1,e2,heq]
   exact Int.eq_of_mul_eq_mul_right (by omega) this
theorem cmp_u (m x m' x':Int) (h:okN m x = true) (h':okN m' x' = true) (w:World) :
  Calls Tryz.prog 87 #[.agg #[.int .i64 m,.int .i64 x],.agg #[.int .i64 m',.int .i64 x']] w fun e w' => Kept w w'/\e = .returned (.tuple #[.int .i64 (isgn (U m x) (U m' x')),.int .i64 0]):=by
 refine (Q.cmp_any m x m' x' w).mono ?_
 rintro e w' ⟨hk,⟨h0,_⟩ | ⟨_,N,D,N',D',hs,hs',rfl⟩⟩
 ·
  exact absurd ⟨h,h'⟩ h0
 ·
  rw [isgn_terms hs.1 hs'.1 (show 0 < 10 ^ 18 by decide) (scl_u (okN_bd h).2.2.1 hs) (scl_u (okN_bd h').2.2.1 hs')]
  exact ⟨hk,rfl⟩
theorem isgn_neg {a b:Int}:isgn a b < 0 ↔ a < b:=by unfold isgn; split <;> (try split) <;> omega
set_option maxRecDepth 100000 in
set_option maxHeartbeats 4000000 in
theorem risingM_any (ao:Option Addr) (n c:Nat) (vs:List (Int × Int)) (w:World) (h:NSl w (.slice ao n c) vs) (hn:n<=4611686018427387903) (hall:allN vs = true) :
  Calls Tryz.prog 47 #[.slice ao n c] w fun e w' => Kept w w'/\e = .returned (.bool (riseN vs)):=by
 have hok:∀ q ∈ vs,okN q.1 q.2 = true:=by
  intro q hq
  unfold allN at hall
  have:vs.any (fun q => !okN q.1 q.2) = false:=by simpa using hall
  rw [List.any_eq_false] at this
  have:=this q hq
  simpa using this
 have HS:=hid' (And.intro h hok)
 clear h hok hall
 have hw:IntKind.i64.wrap ((n:Int) - 1) = (n:Int) - 1:=by rw [IntKind.wrap_i64]; omega
 go_enter Tryz.func47,Tryz.ntmps47
 go_wp2_with fail
 go_loopw [9] (fun vi wr => ∃ j:Nat,(j + 1<=n ∨ j = 0)/\vi = .int .i64 (j:Int)/\Hid (Kept w wr/\∀ i,i < j->U (vs.getD i (0,0)).1 (vs.getD i (0,0)).2 < U (vs.getD (i + 1) (0,0)).1 (vs.getD (i + 1) (0,0)).2)) (fun vi _ => n - (intOf vi).toNat)
 case atStart => exact ⟨0,.inr rfl,rfl,Kept.refl w,fun i hi => absurd hi (Nat.not_lt_zero _)⟩
 case round =>
  obtain ⟨j,hj,rfl,H⟩:=hrel
  by_cases hlt:j + 1 < n
  ·
   have hltz:(j:Int) < (n:Int) - 1:=by omega
   have hj1:(j:Int) < (n:Int):=by omega
   have hj2:(j:Int) + 1 < (n:Int):=by omega
   have hj3:(0:Int)<=(j:Int) + 1:=by omega
   have hlen:=HS.out.1.len
   obtain ⟨ao',cap',hv,hx⟩:=HS.out.1.kept H.out.1
   simp only [Value.slice.injEq] at hv
   obtain ⟨rfl,hq,rfl⟩:=hv
   obtain ⟨b,off,rfl,hb,hc⟩:=hx (by omega)
   clear hq
   obtain ⟨c0,c1⟩:=hc j (by omega)
   obtain ⟨d0,d1⟩:=hc (j + 1) (by omega)
   have ok1:okN (vs.getD j (0,0)).1 (vs.getD j (0,0)).2 = true:=HS.out.2 _ (by
    rw [List.getD_eq_getElem?_getD,List.getElem?_eq_getElem (by omega)]
    exact List.getElem_mem (by omega))
   have ok2:okN (vs.getD (j + 1) (0,0)).1 (vs.getD (j + 1) (0,0)).2 = true:=HS.out.2 _ (by
    rw [List.getD_eq_getElem?_getD,List.getElem?_eq_getElem (by omega)]
    exact List.getElem_mem (by omega))
   obtain ⟨x,hX⟩:∃ x,x = vs.getD j (0,0):=⟨_,rfl⟩
   obtain ⟨y,hY⟩:∃ y,y = vs.getD (j + 1) (0,0):=⟨_,rfl⟩
   rw [<- hX] at c0 c1 ok1
   rw [<- hY] at d0 d1 ok2
   have HX:=hid' (And.intro hX hY)
   obtain ⟨x0,x1⟩:=x
   obtain ⟨y0,y1⟩:=y
   dsimp only at c0 c1 d0 d1 ok1 ok2
   have ht1:((j:Int) + 1).toNat = j + 1:=by omega
   have hw2:IntKind.i64.wrap ((j:Int) + 1) = (j:Int) + 1:=by rw [IntKind.wrap_i64]; omega
   clear hX hY hx hc hlen
   go_upto_region 4 with fail
   have KR:∀ d os,Kept wr (grow (redrawn wr d) os):=fun d os => below_regrown wr d os
   have r0:∀ d os,(grow (redrawn wr d) os).cell? ⟨b,off + j * 2,none⟩ = some (.int .i64 x0):=fun d os => (Below.cell (KR d os) (p:=⟨b,off + j * 2,none⟩) hb).trans c0
   have r1:∀ d os,(grow (redrawn wr d) os).cell? ⟨b,off + j * 2 + 1,none⟩ = some (.int .i64 x1):=fun d os => (Below.cell (KR d os) (p:=⟨b,off + j * 2 + 1,none⟩) hb).trans c1
   have r2:∀ d os,(grow (redrawn wr d) os).cell? ⟨b,off + (j + 1) * 2,none⟩ = some (.int .i64 y0):=fun d os => (Below.cell (KR d os) (p:=⟨b,off + (j + 1) * 2,none⟩) hb).trans d0
   have r3:∀ d os,(grow (redrawn wr d) os).cell? ⟨b,off + (j + 1) * 2 + 1,none⟩ = some (.int .i64 y1):=fun d os => (Below.cell (KR d os) (p:=⟨b,off + (j + 1) * 2 + 1,none⟩) hb).trans d1
   obtain ⟨sg,hsg⟩:∃ sg,sg = isgn (U x0 x1) (U y0 y1):=⟨_,rfl⟩
   have cS:∀ d os,Calls Tryz.prog 87 #[.agg #[.int .i64 x0,.int .i64 x1],.agg #[.int .i64 y0,.int .i64 y1]] (grow (redrawn wr d) os) fun e w'' => e = .returned (.tuple #[.int .i64 sg,.int .i64 0])/\∃ p:Regrown,w'' = grow (redrawn wr p.d) p.os:=fun d os =>
    Calls.regrown_of ((cmp_u x0 x1 y0 y1 ok1 ok2 _).mono fun e w' h => ⟨by rw [h.2,hsg],h.1⟩)
   have HSG:=hid' hsg
   have HKR:=hid' KR
   clear KR c0 c1 d0 d1 hb hsg ok1 ok2
   refine wp_region_quiet_below (by kernel_rfl) (by kernel_rfl) ?_
   repeat (quiet_step (exact cS _ _))
   refine wpQuiet_nil ?_
   intro _ hw'
   obtain ⟨⟨dq,osq⟩,hw''⟩:=hw'
   subst hw''
   by_cases hs:0<=sg
   ·
    have HR:=hid' (show riseN vs = false by
     unfold riseN
     refine decide_eq_false (fun hh => ?_)
     have h1:=hh j (by have:=HS.out.1.len; omega)
     rw [<- HX.out.1,<- HX.out.2] at h1
     have h2:=isgn_neg.2 h1
     rw [<- HSG.out] at h2
     omega)
    go_wp2_with fail
    go_ret
    exact ⟨H.out.1.trans (HKR.out dq osq),by rw [HR.out]; rfl⟩
   ·
    have HL:=hid' (show U (vs.getD j (0,0)).1 (vs.getD j (0,0)).2 < U (vs.getD (j + 1) (0,0)).1 (vs.getD (j + 1) (0,0)).2 by
     rw [<- HX.out.1,<- HX.out.2]
     exact isgn_neg.1 (by rw [<- HSG.out]; omega))
    go_wp2_with fail
    go_roundw
    case rel =>
     refine ⟨j + 1,.inl (by omega),by go_num,H.out.1.trans (HKR.out dq osq),fun i hi => ?_⟩
     by_cases e:i = j
     ·
      subst e; exact HL.out
     ·
      exact H.out.2 i (by omega)
    case measure => show n - ((j:Int) + 1).toNat < n - (j:Int).toNat; omega
  ·
   have hltz:¬ (j:Int) < (n:Int) - 1:=by omega
   have HR:=hid' (show riseN vs = true by
    unfold riseN
    refine decide_eq_true (fun i hi => ?_)
    exact H.out.2 i (by have:=HS.out.1.len; omega))
   go_wp2_with fail
   go_ret
   exact ⟨H.out.1,by rw [HR.out]; rfl⟩
end V
end Go.Proofs.YthfbfbfambbkaaaGreatDoor
namespace Go.Proofs.YthfbfbfambbkaaaGreatDoor
open Go.RowKit
namespace V
open Q (hid' Row3 Row2 okN okN_bd Scl)
set_option maxRecDepth 100000 in
set_option maxHeartbeats 4000000 in
theorem validM_any (s:ByteArray) (k:Int) (a1 a2:Option Addr) (n c m c':Nat) (gs vs:List (Int × Int)) (w:World) (hs:s.size<=9223372036854775807) (h1:NSl w (.slice a1 n c) gs) (h2:NSl w (.slice a2 m c') vs) (hn:n<=4611686018427387903) (hm:m<=4611686018427387903) :
  Calls Tryz.prog 17 #[.agg #[.string s,.int .u8 k,.slice a1 n c,.slice a2 m c']] w fun e w' => Kept w w'/\e = .returned (.bool (okM s.data.toList k gs vs)):=by
 have HS:=hid' (And.intro h1 h2)
 have HO:=hid' (show okM s.data.toList k gs vs = (okName s.data.toList && fitsM k n m && allN gs && allN vs && riseN vs) by unfold okM; rw [h1.len,h2.len])
 generalize okM s.data.toList k gs vs = ok at HO ⊢
 clear h1 h2
 go_enter Tryz.func17,Tryz.ntmps17
 go_upto_region 1 with fail
 have hK:=(Kept.refl w).alloc (.cells #[.string s,.int .u8 k,.slice a1 n c,.slice a2 m c'] 24)
 have hR:=Row4.alloc 24 w (.string s) (.int .u8 k) (.slice a1 n c) (.slice a2 m c')
 generalize w.alloc (.cells #[.string s,.int .u8 k,.slice a1 n c,.slice a2 m c'] 24) = W at hK hR ⊢
 obtain ⟨p1,hp1⟩:∃ p,p = w.heap.size:=⟨_,rfl⟩
 rw [<- hp1] at hR ⊢
 have HK:=hid' (And.intro hK hR)
 have q0:=hR.c0
 clear hp1 hK hR
 go_wp2_with fail
 refine (isName_any s _ hs).mono ?_
 rintro e w1 ⟨hk1,rfl⟩
 have HK1:=hid' (And.intro (HK.out.1.trans hk1) (HK.out.2.kept hk1))
 clear hk1 q0 HK
 obtain ⟨b1,hb1⟩:∃ b,b = okName s.data.toList:=⟨_,rfl⟩
 rw [<- hb1] at HO ⊢
 clear hb1
 cases b1
 ·
  go_wp2_with fail
  go_ret
  exact ⟨HK1.out.1,by rw [HO.out]; rfl⟩
 have q0:=HK1.out.2.c0
 have q1:=HK1.out.2.c1
 have q2:=HK1.out.2.c2
 have q3:=HK1.out.2.c3
 go_wp2_with fail
 refine (fitsM_any s k a1 a2 n c m c' _ hm).mono ?_
 rintro e w2 ⟨hk2,rfl⟩
 have HK2:=hid' (And.intro (HK1.out.1.trans hk2) (HK1.out.2.kept hk2))
 clear hk2 q0 q1 q2 q3 HK1
 obtain ⟨b2,hb2⟩:∃ b,b = fitsM k n m:=⟨_,rfl⟩
 rw [<- hb2] at HO ⊢
 clear hb2
 cases b2
 ·
  go_wp2_with fail
  go_ret
  exact ⟨HK2.out.1,by rw [HO.out]; rfl⟩
 have q2:=HK2.out.2.c2
 go_wp2_with fail
 refine (allRight_any a1 n c gs _ (HS.out.1.kept HK2.out.1) (by omega)).mono ?_
 rintro e w3 ⟨hk3,rfl⟩
 have HK3:=hid' (And.intro (HK2.out.1.trans hk3) (HK2.out.2.kept hk3))
 clear hk3 q2 HK2
 obtain ⟨b3,hb3⟩:∃ b,b = allN gs:=⟨_,rfl⟩
 rw [<- hb3] at HO ⊢
 clear hb3
 cases b3
 ·
  go_wp2_with fail
  go_ret
  exact ⟨HK3.out.1,by rw [HO.out]; rfl⟩
 have q3:=HK3.out.2.c3
 go_wp2_with fail
 refine (allRight_any a2 m c' vs _ (HS.out.2.kept HK3.out.1) (by omega)).mono ?_
 rintro e w4 ⟨hk4,rfl⟩
 have HK4:=hid' (And.intro (HK3.out.1.trans hk4) (HK3.out.2.kept hk4))
 clear hk4 q3 HK3
 obtain ⟨b4,hb4⟩:∃ b,b = allN vs:=⟨_,rfl⟩
 rw [<- hb4] at HO ⊢
 have HB4:=hid' hb4
 clear hb4
 cases b4
 ·
  go_wp2_with fail
  go_ret
  exact ⟨HK4.out.1,by rw [HO.out]; rfl⟩
 have q3:=HK4.out.2.c3
 go_wp2_with fail
 refine (risingM_any a2 m c' vs _ (HS.out.2.kept HK4.out.1) (by omega) HB4.out.symm).mono ?_
 rintro e w5 ⟨hk5,rfl⟩
 have HK5:=hid' (HK4.out.1.trans hk5)
 clear hk5 q3 HK4
 obtain ⟨b5,hb5⟩:∃ b,b = riseN vs:=⟨_,rfl⟩
 rw [<- hb5] at HO ⊢
 clear hb5
 go_wp2_with fail
 go_ret
 exact ⟨HK5.out,by rw [HO.out]; rfl⟩
def refM (s:List UInt8) (k:Int) (gs vs:List (Int × Int)) (i:Int):Int:=if okM s k gs vs = true then if i < 0 ∨ (gs.length:Int)<=i then 111 else 0 else 50
set_option maxRecDepth 100000 in
set_option maxHeartbeats 4000000 in
theorem refusalM_any (s:ByteArray) (k:Int) (a1 a2:Option Addr) (n c m c':Nat) (gs vs:List (Int × Int)) (i:Int) (w:World) (hs:s.size<=9223372036854775807) (h1:NSl w (.slice a1 n c) gs) (h2:NSl w (.slice a2 m c') vs) (hn:n<=4611686018427387903) (hm:m<=4611686018427387903) :
  Calls Tryz.prog 31 #[.agg #[.string s,.int .u8 k,.slice a1 n c,.slice a2 m c'],.int .i64 i] w fun e w' => Kept w w'/\e = .returned (.int .i64 (refM s.data.toList k gs vs i)):=by
 have hv:=validM_any s k a1 a2 n c m c' gs vs
 have HS:=hid' (And.intro h1 h2)
 have HO:=hid' (show refM s.data.toList k gs vs i = if okM s.data.toList k gs vs = true then if i < 0 ∨ (n:Int)<=i then 111 else 0 else 50 by unfold refM; rw [h1.len])
 generalize refM s.data.toList k gs vs i = r at HO ⊢
 obtain ⟨ok,hok⟩:∃ ok,ok = okM s.data.toList k gs vs:=⟨_,rfl⟩
 rw [<- hok] at HO hv
 clear h1 h2 hok
 go_enter Tryz.func31,Tryz.ntmps31
 go_upto_region 1 with fail
 have hK:=(Kept.refl w).alloc (.cells #[.string s,.int .u8 k,.slice a1 n c,.slice a2 m c'] 24)
 have hR:=Row4.alloc 24 w (.string s) (.int .u8 k) (.slice a1 n c) (.slice a2 m c')
 generalize w.alloc (.cells #[.string s,.int .u8 k,.slice a1 n c,.slice a2 m c'] 24) = W at hK hR ⊢
 obtain ⟨p1,hp1⟩:∃ p,p = w.heap.size:=⟨_,rfl⟩
 rw [<- hp1] at hR ⊢
 have HK:=hid' (And.intro hK hR)
 have q0:=hR.c0
 have q1:=hR.c1
 have q2:=hR.c2
 have q3:=hR.c3
 clear hp1 hK hR
 go_wp2_with fail
 refine (hv _ hs (HS.out.1.kept HK.out.1) (HS.out.2.kept HK.out.1) hn hm).mono ?_
 rintro e w1 ⟨hk1,rfl⟩
 have HK1:=hid' (And.intro (HK.out.1.trans hk1) (HK.out.2.kept hk1))
 clear hk1 q0 q1 q2 q3 HK hv
 have q2:=HK1.out.2.c2
 cases ok
 ·
  go_wp2_with fail
  go_ret
  exact ⟨HK1.out.1,by rw [HO.out]; rfl⟩
 ·
  by_cases hi0:i < 0
  ·
   have HR:=hid' (show r = 111 by rw [HO.out,if_pos rfl,if_pos (.inl hi0)])
   go_wp2_with fail
   go_ret
   exact ⟨HK1.out.1,by rw [HR.out]; rfl⟩
  ·
   by_cases hi1:(n:Int)<=i
   ·
    have HR:=hid' (show r = 111 by rw [HO.out,if_pos rfl,if_pos (.inr hi1)])
    have hi2:¬ i < (n:Int):=by omega
    go_wp2_with fail
    go_ret
    exact ⟨HK1.out.1,by rw [HR.out]; rfl⟩
   ·
    have HR:=hid' (show r = 0 by rw [HO.out,if_pos rfl,if_neg (by omega)])
    have hi2:i < (n:Int):=by omega
    go_wp2_with fail
    go_ret
    exact ⟨HK1.out.1,by rw [HR.out]; rfl⟩
end V
end Go.Proofs.YthfbfbfambbkaaaGreatDoor
namespace Go.Proofs.YthfbfbfambbkaaaGreatDoor
open Go.RowKit
namespace V
open Q (hid' Row3 Row2 okN okN_bd Scl)
theorem u_nine:U 1 9 = 10 ^ 27:=by decide +kernel
theorem new_set4 {B p:Nat} {w:World} {v:Value} {l:List Nat} {y0 y1 y2 y3:Value} (h:New B w v l) (hr:F.RRow w p y0 y1 y2 y3) (x0 x1 x2 x3:Value):New B ((((w.setCell ⟨p,0,none⟩ x0).setCell ⟨p,1,none⟩ x1).setCell ⟨p,2,none⟩ x2).setCell ⟨p,3,none⟩ x3) v l:=by
 obtain ⟨hb,⟨rfl,rfl⟩ | ⟨b,N,f,rfl,hB,hN,hq,hf⟩⟩:=h
 ·
  exact ⟨hb,.inl ⟨rfl,rfl⟩⟩
 ·
  have hne:b ≠ p:=by
   intro e
   subst e
   obtain ⟨c,h1,_,_⟩:=hq
   obtain ⟨c',h2,_,_⟩:=hr
   rw [h1] at h2
   simp at h2
  exact ⟨hb,.inr ⟨b,N,f,rfl,hB,hN,World.rowIs.setOther (World.rowIs.setOther (World.rowIs.setOther (World.rowIs.setOther hq hne _) hne _) hne _) hne _,hf⟩⟩
theorem RT.set4 {B p:Nat} {w:World} {v:Value} {A:Int} {S:Nat} {y0 y1 y2 y3:Value} (h:RT B w v A S) (hz:F.RRow w p y0 y1 y2 y3) (x0 x1 x2 x3:Value):RT B ((((w.setCell ⟨p,0,none⟩ x0).setCell ⟨p,1,none⟩ x1).setCell ⟨p,2,none⟩ x2).setCell ⟨p,3,none⟩ x3) v A S:=by
 obtain ⟨N,D,⟨s,ao,ap,k,c,k',c',l,l',hv,h1,h2,h3⟩,he⟩:=h
 exact ⟨N,D,⟨s,ao,ap,k,c,k',c',l,l',hv,new_set4 h1 hz x0 x1 x2 x3,new_set4 h2 hz x0 x1 x2 x3,h3⟩,he⟩
theorem kept_set4 {a b:World} {p:Nat} (h:Kept a b) (hp:a.heap.size<=p) (x0 x1 x2 x3:Value):Kept a ((((b.setCell ⟨p,0,none⟩ x0).setCell ⟨p,1,none⟩ x1).setCell ⟨p,2,none⟩ x2).setCell ⟨p,3,none⟩ x3) :=
 (((h.setCell (p:=⟨p,0,none⟩) hp x0).setCell (p:=⟨p,1,none⟩) hp x1).setCell (p:=⟨p,2,none⟩) hp x2).setCell (p:=⟨p,3,none⟩) hp x3
theorem u_abs {m x:Int} (h:okN m x = true):(U m x).natAbs<=10 ^ 36:=by
 obtain ⟨h1,h2,h3,h4⟩:=okN_bd h
 unfold U
 rw [Int.natAbs_mul]
 have e1:m.natAbs<=10 ^ 9:=by omega
 have e2:(x + 18).toNat<=27:=by omega
 have e3:=Nat.pow_le_pow_right (show 0 < 10 by decide) e2
 refine Nat.le_trans (Nat.mul_le_mul e1 (show _<=10 ^ 27 from ?_)) (by decide)
 simpa [Int.natAbs_pow] using e3
set_option maxRecDepth 100000 in
set_option maxHeartbeats 4000000 in
theorem knot_any (m x:Int) (h:okN m x = true) (w:World) :
  Calls Tryz.prog 77 #[.agg #[.int .i64 m,.int .i64 x]] w fun e w' => Kept w w'/\∃ u,e = .returned u/\RT w.heap.size w' u (U m x * 10 ^ 27) (10 ^ 36):=by
 have HB:=okN_bd h
 have hA:=u_abs h
 go_enter Tryz.func77,Tryz.ntmps77
 go_wp2_with fail
 have hZ:=F.RRow.alloc (w.alloc (.cells #[.int .i64 m,.int .i64 x] 48)) (.bool false) (.slice none 0 0) (.bool false) (.slice none 0 0)
 have hK:=((Kept.refl w).alloc (.cells #[.int .i64 m,.int .i64 x] 48)).alloc (.cells #[.bool false,.slice none 0 0,.bool false,.slice none 0 0] 29)
 rw [World.size_alloc] at hZ
 refine (rt_value m x h _).mono ?_
 rintro e w1 ⟨hk1,u,rfl,r1⟩
 have HZ:=hid' (hZ.kept hk1)
 have HK:=hid' (hK.trans hk1)
 obtain ⟨s1,a1,b1,k1,c1,k1',c1',rfl⟩:=r1.shape
 have R1:=hid' r1
 obtain ⟨p2,hp2⟩:∃ p,p = w.heap.size + 1:=⟨_,rfl⟩
 rw [<- hp2] at HZ ⊢
 have HPW:=hid' (show w.heap.size<=p2 by omega)
 clear hp2
 clear r1 hk1 hZ hK
 go_wp2_with fail
 have kA:=(Kept.refl w1).alloc (.cells #[.bool s1,.slice a1 k1 c1,.bool false,.slice b1 k1' c1'] 29)
 have hV:=F.RRow.alloc w1 (.bool s1) (.slice a1 k1 c1) (.bool false) (.slice b1 k1' c1')
 refine (rt_value 1 9 (by decide +kernel) _).mono ?_
 rintro e w2 ⟨hk2,u2,rfl,r2⟩
 have HZ:=hid' (HZ.out.kept (kA.trans hk2))
 have HK:=hid' (HK.out.trans (kA.trans hk2))
 have R1:=hid' (R1.out.kept (kA.trans hk2))
 have HV:=hid' (hV.kept hk2)
 have HS2:=hid' HK.out.size
 obtain ⟨s2,a2,b2,k2,c2,k2',c2',rfl⟩:=r2.shape
 have R2:=hid' r2
 obtain ⟨p3,hp3⟩:∃ p,p = w1.heap.size:=⟨_,rfl⟩
 rw [<- hp3] at HV ⊢
 clear r2 hk2 kA hV hp3
 have kA:=(Kept.refl w2).alloc (.cells #[.bool s2,.slice a2 k2 c2,.bool false,.slice b2 k2' c2'] 29)
 have f0:=(HV.out.kept kA).c0
 have f1:=(HV.out.kept kA).c1
 have f2:=(HV.out.kept kA).c2
 have f3:=(HV.out.kept kA).c3
 go_wp2_with fail
 refine (rt_mul _ (R1.out.kept kA) (R2.out.kept kA) (by decide) (by decide) (by rw [u_nine,Int.natAbs_mul]; exact Nat.le_trans (Nat.mul_le_mul hA (Nat.le_refl _)) (by decide)) (by decide)).mono ?_
 rintro e w3 ⟨hk3,u3,rfl,r3⟩
 have HZ:=hid' (HZ.out.kept (kA.trans hk3))
 have HK:=hid' (HK.out.trans (kA.trans hk3))
 obtain ⟨s3,a3,b3,k3,c3,k3',c3',rfl⟩:=r3.shape
 rw [u_nine,show (10 ^ 18 * 10 ^ 18:Nat) = 10 ^ 36 by decide] at r3
 have R3:=hid' r3
 clear r3 hk3 kA f0 f1 f2 f3
 have hpn:¬ p2 = w3.heap.size:=by have:=HZ.out.lt; omega
 have kA:=(Kept.refl w3).alloc (.cells #[.bool s3,.slice a3 k3 c3,.bool false,.slice b3 k3' c3'] 29)
 have hZ:=HZ.out.kept kA
 have f0:=hZ.c0
 have f1:=hZ.c1
 have f2:=hZ.c2
 have f3:=hZ.c3
 have z:=hZ.fz
 have HZ:=hid' hZ
 clear hZ
 go_wp2_with fail
 exact bodyPost_ret (v:=.agg #[.bool s3,.slice a3 k3 c3,.bool false,.slice b3 k3' c3']) (by simp [results,Tryz.results77,go_sem,f0,f1,f2,f3]) rfl ⟨kept_set4 (HK.out.trans kA) HPW.out _ _ _ _,_,rfl,((R3.out.kept kA).mono (by have:=HS2.out; rw [World.size_alloc]; omega)).set4 HZ.out _ _ _ _⟩
end V
end Go.Proofs.YthfbfbfambbkaaaGreatDoor
namespace Go.Proofs.YthfbfbfambbkaaaGreatDoor
open Go.RowKit
namespace V
open Q (hid' Row3 Row2 okN okN_bd Scl RQ)
def RS (w:World) (v:Value) (A:Int) (S:Nat):Prop:=∃ (s:Bool) (ao ap:Option Addr) (k c k' c':Nat) (l l':List Nat),v = .agg #[.bool s,.slice ao k c,.bool false,.slice ap k' c']/\Sl w (.slice ao k c) l/\Sl w (.slice ap k' c') l'/\F.RatR s false l l'/\M.int s l * (S:Int) = A * (M.val l':Int)
theorem RS.kept {w w':World} {v:Value} {A:Int} {S:Nat} (h:RS w v A S) (k:Kept w w'):RS w' v A S:=by
 obtain ⟨s,ao,ap,k1,c,k',c',l,l',rfl,h1,h2,h3,h4⟩:=h
 exact ⟨s,ao,ap,k1,c,k',c',l,l',rfl,h1.kept k,h2.kept k,h3,h4⟩
theorem RS.scale {w:World} {v:Value} {A:Int} {S:Nat} (h:RS w v A S) (c:Nat):RS w v (A * c) (S * c):=by
 obtain ⟨s,ao,ap,k1,c1,k',c',l,l',rfl,h1,h2,h3,h4⟩:=h
 refine ⟨s,ao,ap,k1,c1,k',c',l,l',rfl,h1,h2,h3,?_⟩
 rw [Int.natCast_mul,<- Int.mul_assoc,h4,Int.mul_right_comm]
theorem RS.shape {w:World} {v:Value} {A:Int} {S:Nat} (h:RS w v A S):∃ (s:Bool) (ao ap:Option Addr) (k c k' c':Nat),v = .agg #[.bool s,.slice ao k c,.bool false,.slice ap k' c']:=by
 obtain ⟨s,ao,ap,k,c,k',c',l,l',rfl,_⟩:=h
 exact ⟨_,_,_,_,_,_,_,rfl⟩
theorem RT.rs {B:Nat} {w:World} {v:Value} {A:Int} {S:Nat} (h:RT B w v A S):RS w v A S:=by
 obtain ⟨N,D,⟨s,ao,ap,k,c,k',c',l,l',rfl,n1,n2,r,rfl,rfl⟩,e⟩:=h
 exact ⟨s,ao,ap,k,c,k',c',l,l',rfl,n1.sl,n2.sl,r,e⟩
set_option maxRecDepth 100000 in
set_option maxHeartbeats 4000000 in
theorem whole_any (v:Int) (w:World) (h1:-9223372036854775808<=v) (h2:v<=9223372036854775807) :
  Calls Tryz.prog 24 #[.int .i64 v] w fun e w' => Kept w w'/\∃ u,e = .returned u/\RT w.heap.size w' u v 1:=by
 have HO:=hid' (of_any v)
 have HV:=hid' (And.intro h1 h2)
 clear h1 h2
 go_enter Tryz.func24,Tryz.ntmps24
 go_upto_region 1 with fail
 have hZ:=F.RRow.alloc w (.bool false) (.slice none 0 0) (.bool false) (.slice none 0 0)
 have hK:=(Kept.refl w).alloc (.cells #[.bool false,.slice none 0 0,.bool false,.slice none 0 0] 29)
 generalize w.alloc (.cells #[.bool false,.slice none 0 0,.bool false,.slice none 0 0] 29) = W at hZ hK ⊢
 obtain ⟨p,hp⟩:∃ p,p = w.heap.size:=⟨_,rfl⟩
 rw [<- hp] at hZ ⊢
 have HP:=hid' (show w.heap.size<=p by omega)
 have HZ:=hid' (And.intro hK hZ)
 clear hp hZ hK
 go_wp2_with fail
 refine (HO.out _ HV.out.1 HV.out.2).mono ?_
 rintro e w1 ⟨hk1,s1,a1,n1,c1,l1,rfl,hn1,hr1,hv1⟩
 have H1:=hid' (And.intro hn1 (And.intro hr1 hv1))
 have HZ:=hid' (And.intro (HZ.out.1.trans hk1) (And.intro (HZ.out.2.kept hk1) HZ.out.1.size))
 clear hk1 hn1 hr1 hv1 HO HV
 go_wp2_with fail
 refine (of_any 1 _ (by omega) (by omega)).mono ?_
 rintro e w2 ⟨hk2,s2,a2,n2,c2,l2,rfl,hn2,hr2,hv2⟩
 obtain ⟨rfl,rfl⟩:=F.one_limb (x:=1) hr2 hv2 (by decide) (by decide)
 have HZ2:=hid' (And.intro (HZ.out.1.trans hk2) (HZ.out.2.1.kept hk2))
 have HR:=hid' (show RT w.heap.size w2 (.agg #[.bool s1,.slice a1 n1 c1,.bool false,.slice a2 n2 c2]) v 1 from
  ⟨v,1,⟨s1,a1,a2,n1,c1,n2,c2,l1,[1],rfl,(H1.out.1.kept hk2).mono HZ.out.2.2,hn2.mono (HZ.out.1.size),⟨R.of_right H1.out.2.1,R.of_right hr2,by decide,Nat.gcd_one_right _⟩,H1.out.2.2,rfl⟩,by simp⟩)
 clear hk2 hn2 hr2 hv2 H1 HZ
 have hZ:=HZ2.out.2
 have f0:=hZ.c0
 have f1:=hZ.c1
 have f2:=hZ.c2
 have f3:=hZ.c3
 have z:=hZ.fz
 clear hZ
 go_wp2_with fail
 exact bodyPost_ret (v:=.agg #[.bool s1,.slice a1 n1 c1,.bool false,.slice a2 n2 c2]) (by simp [results,Tryz.results24,go_sem,f0,f1,f2,f3]) rfl ⟨kept_set4 HZ2.out.1 HP.out _ _ _ _,_,rfl,HR.out.set4 HZ2.out.2 _ _ _ _⟩
end V
end Go.Proofs.YthfbfbfambbkaaaGreatDoor
namespace Go.Proofs.YthfbfbfambbkaaaGreatDoor
open Go.RowKit
namespace V
open Q (hid' Row3 Row2 okN okN_bd Scl)
theorem isgn_one {N N' A':Int} {D D' S:Nat} (hD':0 < D') (hS:0 < S) (h':N' * (S:Int) = A' * D'):isgn (N * D') (N' * D) = isgn (N * S) (A' * D):=by
 have pS:(0:Int) < S:=by omega
 have pD:(0:Int) < (D':Int):=by omega
 have e1:N * D' * S = N * S * D':=Int.mul_right_comm _ _ _
 have e2:N' * D * S = A' * D * D':=by rw [Int.mul_right_comm,h',Int.mul_right_comm]
 apply F.isgn_eq
 ·
  constructor
  ·
   intro hlt
   have:=Int.mul_lt_mul_of_pos_right hlt pS
   rw [e1,e2] at this
   exact Int.lt_of_mul_lt_mul_right this (Int.le_of_lt pD)
  ·
   intro hlt
   have:=Int.mul_lt_mul_of_pos_right hlt pD
   rw [<- e1,<- e2] at this
   exact Int.lt_of_mul_lt_mul_right this (Int.le_of_lt pS)
 ·
  constructor
  ·
   intro heq
   have:N * S * D' = A' * D * D':=by rw [<- e1,<- e2,heq]
   exact Int.eq_of_mul_eq_mul_right (by omega) this
  ·
   intro heq
   have:N * D' * S = N' * D * S:=by rw [e1,e2,heq]
   exact Int.eq_of_mul_eq_mul_right (by omega) this
def agn (N:Int) (D:Nat) (v:Int × Int):Int:=isgn (N * 10 ^ 36) (U v.1 v.2 * 10 ^ 27 * D)
set_option maxRecDepth 100000 in
set_option maxHeartbeats 4000000 in
theorem against_any (s nA:Bool) (a1 a2:Option Addr) (k1 c1 k2 c2:Nat) (an ad:List Nat) (m x:Int) (w:World) (ha:Sl w (.slice a1 k1 c1) an) (had:Sl w (.slice a2 k2 c2) ad) (hA:F.RatR s nA an ad) (h:okN m x = true) :
  Calls Tryz.prog 36 #[.agg #[.bool s,.slice a1 k1 c1,.bool nA,.slice a2 k2 c2],.agg #[.int .i64 m,.int .i64 x]] w fun e w' => Kept w w'/\e = .returned (.int .i64 (agn (M.int s an) (M.val ad) (m,x))):=by
 have HA:=hid' (And.intro ha (And.intro had hA))
 clear ha had hA
 go_enter Tryz.func36,Tryz.ntmps36
 go_upto_region 1 with fail
 have hU:=(F.RRow.alloc w (.bool s) (.slice a1 k1 c1) (.bool nA) (.slice a2 k2 c2)).kept ((Kept.refl (w.alloc (.cells #[.bool s,.slice a1 k1 c1,.bool nA,.slice a2 k2 c2] 29))).alloc (.cells #[.int .i64 m,.int .i64 x] 48))
 have hV:=Row2.alloc 48 (w.alloc (.cells #[.bool s,.slice a1 k1 c1,.bool nA,.slice a2 k2 c2] 29)) (.int .i64 m) (.int .i64 x)
 have hK:=((Kept.refl w).alloc (.cells #[.bool s,.slice a1 k1 c1,.bool nA,.slice a2 k2 c2] 29)).alloc (.cells #[.int .i64 m,.int .i64 x] 48)
 rw [World.size_alloc] at hV
 generalize (w.alloc (.cells #[.bool s,.slice a1 k1 c1,.bool nA,.slice a2 k2 c2] 29)).alloc (.cells #[.int .i64 m,.int .i64 x] 48) = W at hU hV hK ⊢
 have HK:=hid' hK
 obtain ⟨q,hq⟩:∃ q,q = w.heap.size + 1:=⟨_,rfl⟩
 rw [<- hq] at hV ⊢
 obtain ⟨p,hp⟩:∃ q,q = w.heap.size:=⟨_,rfl⟩
 rw [<- hp] at hU ⊢
 clear hq hp hK
 have KT:Kept W W.drew:=(Kept.refl _).drew
 have sS:=hid' (fun (V:World) (K:Kept W V) => And.intro (hU.kept K).c0 (And.intro (hU.kept K).c1 (And.intro (hU.kept K).c2 (And.intro (hU.kept K).c3 (And.intro (hV.kept K).c0 (hV.kept K).c1)))))
 clear hU hV
 refine wp_region_held_drew (S:=fun w' => w'.cell? ⟨p,0,none⟩ = some (.bool s)/\w'.cell? ⟨p,1,none⟩ = some (.slice a1 k1 c1)/\w'.cell? ⟨p,2,none⟩ = some (.bool nA)/\w'.cell? ⟨p,3,none⟩ = some (.slice a2 k2 c2)/\w'.cell? ⟨q,0,none⟩ = some (.int .i64 m)/\w'.cell? ⟨q,1,none⟩ = some (.int .i64 x)) (by kernel_rfl) (sS.out _ KT) (fun hHeld => ?_)
 generalize W.drew = Wd at KT hHeld ⊢
 refine wk 0 hHeld ?_
 refine wk 1 hHeld ?_
 refine rdy 2 fun K hK => ?_
 go_simp
 refine (knot_any m x h _).mono ?_
 rintro e w1 ⟨hk1,u,rfl,r1⟩
 obtain ⟨N,D,hrq,he⟩:=r1
 have hD:=hrq.low.1
 obtain ⟨s3,a3,b3,k3,c3,k3',c3',l,l',rfl,n1,n2,r3,rfl,rfl⟩:=hrq
 refine hK.out _ _ (sS.out _ (KT.trans hk1)) (fun hHeld => ?_)
 clear hK K
 have KT:=KT.trans hk1
 clear hk1
 refine rdy 3 fun K hK => ?_
 go_simp
 refine (F.Cmp_ok s nA s3 false a1 a2 a3 b3 k1 c1 k2 c2 k3 c3 k3' c3' an ad l l' _ (HA.out.1.kept (HK.out.trans KT)) (HA.out.2.1.kept (HK.out.trans KT)) n1.sl n2.sl HA.out.2.2 r3).mono ?_
 rintro e w2 ⟨rfl,hk2⟩
 rw [isgn_one (S:=10 ^ 36) (A':=U m x * 10 ^ 27) hD (by decide) he]
 refine hK.out _ _ (sS.out _ (KT.trans hk2)) (fun hHeld => ?_)
 clear hK K
 have KT:=KT.trans hk2
 clear hk2 n1 n2 r3 he hD
 refine wk 4 hHeld ?_
 refine wk 5 hHeld ?_
 refine wk 6 hHeld ?_
 refine wk 7 hHeld ?_
 refine wk 8 hHeld ?_
 refine dn ?_
 go_wp2_with fail
 go_ret
 exact ⟨HK.out.trans KT,rfl⟩
end V
end Go.Proofs.YthfbfbfambbkaaaGreatDoor
namespace Go.Proofs.YthfbfbfambbkaaaGreatDoor
open Go.RowKit
namespace V
open Q (hid' Row3 Row2 okN okN_bd Scl)
theorem refused_rat {m n:Bool} {a d:List Nat} (h:F.Refused 1 (fun _ => m) (fun _ => n) (fun _ => a) (fun _ => d) 0):F.RatR m n a d:=by
 rcases h with ⟨h,_⟩ | ⟨h1,⟨h,_⟩ | ⟨_,h2⟩⟩
 ·
  cases h
 ·
  cases h
 ·
  exact ⟨(h1 0 (by omega)).1,(h1 0 (by omega)).2,(h2 0 (by omega)).1,(h2 0 (by omega)).2⟩
def cntA (N:Int) (D:Nat):List (Int × Int)->Nat
 | [] => 0
 | v :: vs => if 0 < agn N D v then cntA N D vs + 1 else 0
theorem cntA_drop {N:Int} {D:Nat} {vs:List (Int × Int)} {j:Nat} (hj:j < vs.length):cntA N D (vs.drop j) = if 0 < agn N D (vs.getD j (0,0)) then cntA N D (vs.drop (j + 1)) + 1 else 0:=by
 rw [List.drop_eq_getElem_cons hj,cntA,List.getD_eq_getElem?_getD,List.getElem?_eq_getElem hj]; rfl
def FindIs (ok:Bool) (sg nA:Bool) (an ad:List Nat) (vs:List (Int × Int)) (z f:Int):Prop :=
 (ok = false/\z = 0/\f = 50) ∨ (ok = true/\∃ cc,F.Refused 1 (fun _ => sg) (fun _ => nA) (fun _ => an) (fun _ => ad) cc/\((¬ cc = 0/\z = 0/\f = cc) ∨ (cc = 0/\f = 0/\z = cntA (M.int sg an) (M.val ad) vs)))
theorem allN_ok {vs:List (Int × Int)} (hall:allN vs = true):∀ q ∈ vs,okN q.1 q.2 = true:=by
 intro q hq
 unfold allN at hall
 have:vs.any (fun q => !okN q.1 q.2) = false:=by simpa using hall
 rw [List.any_eq_false] at this
 have:=this q hq
 simpa using this
theorem okM_all {s:List UInt8} {k:Int} {gs vs:List (Int × Int)} (h:okM s k gs vs = true):(∀ q ∈ gs,okN q.1 q.2 = true)/\(∀ q ∈ vs,okN q.1 q.2 = true)/\riseN vs = true/\fitsM k gs.length vs.length = true:=by
 unfold okM at h
 simp only [Bool.and_eq_true] at h
 exact ⟨allN_ok h.1.1.2,allN_ok h.1.2,h.2,h.1.1.1.2⟩
end V
end Go.Proofs.YthfbfbfambbkaaaGreatDoor
namespace Go.Proofs.YthfbfbfambbkaaaGreatDoor
open Go.RowKit
namespace V
open Q (okN okN_bd Scl RQ hid' Row3 Row2)
theorem RT.put4 {B p:Nat} {w:World} {v:Value} {A:Int} {S:Nat} {y0 y1 y2 y3:Value} (h:RT B w v A S) (hr:F.RRow w p y0 y1 y2 y3) (x0 x1 x2 x3:Value):RT B (Q.put4 w p x0 x1 x2 x3) v A S:=RT.set4 h hr x0 x1 x2 x3
theorem rrow_put4 {w:World} {p:Nat} {x0 x1 x2 x3:Value} (h:F.RRow w p x0 x1 x2 x3) (y0 y1 y2 y3:Value):F.RRow (Q.put4 w p y0 y1 y2 y3) p y0 y1 y2 y3:=F.RRow.set h y0 y1 y2 y3
theorem NSl.at {w:World} {ao:Option Addr} {n c:Nat} {l:List (Int × Int)} (h:NSl w (.slice ao n c) l) {j:Nat} (hj:j < n):∃ b off,ao = some ⟨b,off,none⟩/\b < w.heap.size/\∀ i,i < n->w.cell? ⟨b,off + i * 2,none⟩ = some (.int .i64 (l.getD i (0,0)).1)/\w.cell? ⟨b,off + i * 2 + 1,none⟩ = some (.int .i64 (l.getD i (0,0)).2):=by
 have hl:=h.len
 obtain ⟨ao',cap',hv,hx⟩:=h
 simp only [Value.slice.injEq] at hv
 obtain ⟨rfl,hq',rfl⟩:=hv
 obtain ⟨b,off,rfl,hb,hc⟩:=hx (by omega)
 exact ⟨b,off,rfl,hb,fun i hi => hc i (by omega)⟩
set_option maxRecDepth 100000 in
set_option maxHeartbeats 8000000 in
theorem jumpM_any (s:ByteArray) (k:Int) (a1 a2:Option Addr) (n c m c':Nat) (gs vs:List (Int × Int)) (j:Nat) (w:World) (h1:NSl w (.slice a1 n c) gs) (h2:NSl w (.slice a2 m c') vs) (hn:n<=4611686018427387903) (hjn:j + 1 < n) (hjm:j < m) (g0 g1 h0 h1' v0 v1:Int) (eg:gs.getD j (0,0) = (g0,g1)) (eh:gs.getD (j + 1) (0,0) = (h0,h1')) (ev:vs.getD j (0,0) = (v0,v1)) (hg:okN g0 g1 = true) (hh:okN h0 h1' = true) (hv:okN v0 v1 = true) :
  Calls Tryz.prog 70 #[.agg #[.string s,.int .u8 k,.slice a1 n c,.slice a2 m c'],.int .i64 (j:Int)] w fun e w' => Kept w w'/\∃ u,e = .returned u/\RT w.heap.size w' u ((U g0 g1 - U h0 h1') * (U v0 v1 * 10 ^ 27)) (10 ^ 54):=by
 obtain ⟨bg,og,rfl,hbg,hcg⟩:=h1.at (j:=j) (by omega)
 obtain ⟨bv,ov,rfl,hbv,hcv⟩:=h2.at (j:=j) hjm
 have gA:=hcg j (by omega)
 have gB:=hcg (j + 1) hjn
 have vA:=hcv j hjm
 rw [eg] at gA
 rw [eh] at gB
 rw [ev] at vA
 have HO:=hid' (And.intro hg (And.intro hh hv))
 have HB:Hid (((U g0 g1 - U h0 h1') * (U v0 v1 * 10 ^ 27)).natAbs<=10 ^ 200):=by
  show _<=_
  have e1:=u_abs hg
  have e2:=u_abs hh
  have e3:=u_abs hv
  rw [Int.natAbs_mul,Int.natAbs_mul]
  have e4:(U g0 g1 - U h0 h1').natAbs<=2 * 10 ^ 36:=by omega
  exact Nat.le_trans (Nat.mul_le_mul e4 (Nat.mul_le_mul e3 (Nat.le_refl _))) (by decide)
 have HB1:Hid ((U g0 g1 - U h0 h1').natAbs<=10 ^ 200):=by
  show _<=_
  have e1:=u_abs hg
  have e2:=u_abs hh
  exact Nat.le_trans (show _<=2 * 10 ^ 36 by omega) (by decide)
 have HC:Hid (∀ V,Kept w V->(V.cell? ⟨bg,og + j * 2,none⟩ = some (.int .i64 g0)/\V.cell? ⟨bg,og + j * 2 + 1,none⟩ = some (.int .i64 g1))/\(V.cell? ⟨bg,og + (j + 1) * 2,none⟩ = some (.int .i64 h0)/\V.cell? ⟨bg,og + (j + 1) * 2 + 1,none⟩ = some (.int .i64 h1'))/\(V.cell? ⟨bv,ov + j * 2,none⟩ = some (.int .i64 v0)/\V.cell? ⟨bv,ov + j * 2 + 1,none⟩ = some (.int .i64 v1))):=fun V hV =>
  ⟨⟨(Below.cell hV (p:=⟨bg,og + j * 2,none⟩) hbg).trans gA.1,(Below.cell hV (p:=⟨bg,og + j * 2 + 1,none⟩) hbg).trans gA.2⟩,⟨(Below.cell hV (p:=⟨bg,og + (j + 1) * 2,none⟩) hbg).trans gB.1,(Below.cell hV (p:=⟨bg,og + (j + 1) * 2 + 1,none⟩) hbg).trans gB.2⟩,(Below.cell hV (p:=⟨bv,ov + j * 2,none⟩) hbv).trans vA.1,(Below.cell hV (p:=⟨bv,ov + j * 2 + 1,none⟩) hbv).trans vA.2⟩
 have z1:(j:Int) < (n:Int):=by omega
 have z2:(j:Int) + 1 < (n:Int):=by omega
 have z3:(j:Int) < (m:Int):=by omega
 have z4:(0:Int)<=(j:Int) + 1:=by omega
 have z5:((j:Int) + 1).toNat = j + 1:=by omega
 have z6:IntKind.i64.wrap ((j:Int) + 1) = (j:Int) + 1:=by rw [IntKind.wrap_i64]; omega
 clear h1 h2 gA gB vA hcg hcv hbg hbv eg eh ev hg hh hv
 go_enter Tryz.func70,Tryz.ntmps70
 go_upto_region 1 with fail
 have hM:=(Row4.alloc 24 w (.string s) (.int .u8 k) (.slice (some ⟨bg,og,none⟩) n c) (.slice (some ⟨bv,ov,none⟩) m c')).kept ((Kept.refl (w.alloc (.cells #[.string s,.int .u8 k,.slice (some ⟨bg,og,none⟩) n c,.slice (some ⟨bv,ov,none⟩) m c'] 24))).alloc (.cells #[.bool false,.slice none 0 0,.bool false,.slice none 0 0] 29))
 have hZ:=F.RRow.alloc (w.alloc (.cells #[.string s,.int .u8 k,.slice (some ⟨bg,og,none⟩) n c,.slice (some ⟨bv,ov,none⟩) m c'] 24)) (.bool false) (.slice none 0 0) (.bool false) (.slice none 0 0)
 have hK:=((Kept.refl w).alloc (.cells #[.string s,.int .u8 k,.slice (some ⟨bg,og,none⟩) n c,.slice (some ⟨bv,ov,none⟩) m c'] 24)).alloc (.cells #[.bool false,.slice none 0 0,.bool false,.slice none 0 0] 29)
 rw [World.size_alloc] at hZ
 generalize (w.alloc (.cells #[.string s,.int .u8 k,.slice (some ⟨bg,og,none⟩) n c,.slice (some ⟨bv,ov,none⟩) m c'] 24)).alloc (.cells #[.bool false,.slice none 0 0,.bool false,.slice none 0 0] 29) = W at hM hZ hK ⊢
 obtain ⟨q,hq⟩:∃ q,q = w.heap.size + 1:=⟨_,rfl⟩
 rw [<- hq] at hZ ⊢
 have HQW:=hid' (show w.heap.size<=q by omega)
 obtain ⟨p,hp⟩:∃ q,q = w.heap.size:=⟨_,rfl⟩
 rw [<- hp] at hM ⊢
 clear hq hp
 have q2:=hM.c2
 have f0:=(HC.out _ hK).1.1
 have f1:=(HC.out _ hK).1.2
 have HK:=hid' (And.intro hK (And.intro hM hZ))
 clear hM hZ hK
 go_wp2_with fail
 refine (rt_value g0 g1 HO.out.1 _).mono ?_
 rintro e w1 ⟨hk1,u1,rfl,t1⟩
 obtain ⟨s1,ao1,ap1,k1,c1,j1,d1,rfl⟩:=t1.shape
 go_upto_region 2 with fail
 have kp1:=(Kept.refl w1).alloc (.cells #[.bool s1,.slice ao1 k1 c1,.bool false,.slice ap1 j1 d1] 29)
 have r1:=F.RRow.alloc w1 (.bool s1) (.slice ao1 k1 c1) (.bool false) (.slice ap1 j1 d1)
 generalize w1.alloc (.cells #[.bool s1,.slice ao1 k1 c1,.bool false,.slice ap1 j1 d1] 29) = W1 at kp1 r1 ⊢
 obtain ⟨p1,hp1⟩:∃ p,p = w1.heap.size:=⟨_,rfl⟩
 rw [<- hp1] at r1 ⊢
 clear hp1
 have kk:=hk1.trans kp1
 have HK:=hid' (And.intro (HK.out.1.trans kk) (And.intro (HK.out.2.1.kept kk) (HK.out.2.2.kept kk)))
 have HT1:=hid' (And.intro (RT.mono (t1.kept kp1) (Nat.zero_le _)) r1)
 clear hk1 kp1 t1 r1 q2 f0 f1 kk
 have q2:=HK.out.2.1.c2
 have f0:=(HC.out _ HK.out.1).2.1.1
 have f1:=(HC.out _ HK.out.1).2.1.2
 go_wp2_with fail
 refine (rt_value h0 h1' HO.out.2.1 _).mono ?_
 rintro e w2 ⟨hk2,u2,rfl,t2⟩
 obtain ⟨s2,ao2,ap2,k2,c2,j2,d2,rfl⟩:=t2.shape
 go_upto_region 3 with fail
 have kp2:=(Kept.refl w2).alloc (.cells #[.bool s2,.slice ao2 k2 c2,.bool false,.slice ap2 j2 d2] 29)
 have r2:=F.RRow.alloc w2 (.bool s2) (.slice ao2 k2 c2) (.bool false) (.slice ap2 j2 d2)
 generalize w2.alloc (.cells #[.bool s2,.slice ao2 k2 c2,.bool false,.slice ap2 j2 d2] 29) = W2 at kp2 r2 ⊢
 obtain ⟨p2,hp2⟩:∃ p,p = w2.heap.size:=⟨_,rfl⟩
 rw [<- hp2] at r2 ⊢
 clear hp2
 have kk:=hk2.trans kp2
 have HK:=hid' (And.intro (HK.out.1.trans kk) (And.intro (HK.out.2.1.kept kk) (HK.out.2.2.kept kk)))
 have HT1:=hid' (And.intro (HT1.out.1.kept kk) (HT1.out.2.kept kk))
 have HT2:=hid' (And.intro (RT.mono (t2.kept kp2) (Nat.zero_le _)) r2)
 clear hk2 kp2 t2 r2 q2 f0 f1 kk
 have f0:=HT1.out.2.c0
 have f1:=HT1.out.2.c1
 have f2:=HT1.out.2.c2
 have f3:=HT1.out.2.c3
 have f4:=HT2.out.2.c0
 have f5:=HT2.out.2.c1
 have f6:=HT2.out.2.c2
 have f7:=HT2.out.2.c3
 go_wp2_with fail
 refine (rt_sub _ HT1.out.1 HT2.out.1 (by decide) HB1.out (by decide)).mono ?_
 rintro e w3 ⟨hk3,u3,rfl,t3⟩
 obtain ⟨s5,ao5,ap5,k5,c5,j5,d5,rfl⟩:=t3.shape
 clear f0 f1 f2 f3 f4 f5 f6 f7
 go_upto_region 4 with fail
 have kp5:=(Kept.refl w3).alloc (.cells #[.bool s5,.slice ao5 k5 c5,.bool false,.slice ap5 j5 d5] 29)
 have r5:=F.RRow.alloc w3 (.bool s5) (.slice ao5 k5 c5) (.bool false) (.slice ap5 j5 d5)
 generalize w3.alloc (.cells #[.bool s5,.slice ao5 k5 c5,.bool false,.slice ap5 j5 d5] 29) = W3 at kp5 r5 ⊢
 obtain ⟨p5,hp5⟩:∃ p,p = w3.heap.size:=⟨_,rfl⟩
 rw [<- hp5] at r5 ⊢
 clear hp5
 have kk:=hk3.trans kp5
 have HK:=hid' (And.intro (HK.out.1.trans kk) (And.intro (HK.out.2.1.kept kk) (HK.out.2.2.kept kk)))
 have HT5:=hid' (RT.mono (t3.kept kp5) (Nat.zero_le _))
 have HV:Hid (∀ V,Kept W3 V->V.cell? ⟨p5,0,none⟩ = some (.bool s5)/\V.cell? ⟨p5,1,none⟩ = some (.slice ao5 k5 c5)/\V.cell? ⟨p5,2,none⟩ = some (.bool false)/\V.cell? ⟨p5,3,none⟩ = some (.slice ap5 j5 d5)/\V.cell? ⟨p,3,none⟩ = some (.slice (some ⟨bv,ov,none⟩) m c')/\V.cell? ⟨bv,ov + j * 2,none⟩ = some (.int .i64 v0)/\V.cell? ⟨bv,ov + j * 2 + 1,none⟩ = some (.int .i64 v1)):=fun V hV =>
  have r:=r5.kept hV
  have q:=HC.out V (HK.out.1.trans hV)
  ⟨r.c0,r.c1,r.c2,r.c3,(HK.out.2.1.kept hV).c3,q.2.2.1,q.2.2.2⟩
 clear hk3 kp5 t3 r5 kk HT1 HT2
 go_cut [11] (fun s11 wc => ∃ (p9:Nat) (s9:Bool) (ao9 ap9:Option Addr) (k9 c9 j9 d9:Nat),s11 = .pointer (some ⟨p9,0,none⟩)/\Hid (Kept W3 wc/\F.RRow wc p9 (.bool s9) (.slice ao9 k9 c9) (.bool false) (.slice ap9 j9 d9)/\RT W3.heap.size wc (.agg #[.bool s9,.slice ao9 k9 c9,.bool false,.slice ap9 j9 d9]) ((U g0 g1 - U h0 h1') * (U v0 v1 * 10 ^ 27)) (10 ^ 18 * 10 ^ 36)))
 case first =>
  have KT:Kept W3 W3.drew:=(Kept.refl _).drew
  have sS:=hid' (fun (V:World) (K:Kept W3 V) => And.intro ((HV.out _ K).1) (And.intro ((HV.out _ K).2.1) (And.intro ((HV.out _ K).2.2.1) (And.intro ((HV.out _ K).2.2.2.1) (And.intro ((HV.out _ K).2.2.2.2.1) (And.intro ((HV.out _ K).2.2.2.2.2.1) ((HV.out _ K).2.2.2.2.2.2)))))))
  refine wp_region_held_drew (S:=fun w' => w'.cell? ⟨p5,0,none⟩ = some (.bool s5)/\w'.cell? ⟨p5,1,none⟩ = some (.slice ao5 k5 c5)/\w'.cell? ⟨p5,2,none⟩ = some (.bool false)/\w'.cell? ⟨p5,3,none⟩ = some (.slice ap5 j5 d5)/\w'.cell? ⟨p,3,none⟩ = some (.slice (some ⟨bv,ov,none⟩) m c')/\w'.cell? ⟨bv,ov + j * 2,none⟩ = some (.int .i64 v0)/\w'.cell? ⟨bv,ov + j * 2 + 1,none⟩ = some (.int .i64 v1)) (by kernel_rfl) (sS.out _ KT) (fun hHeld => ?_)
  generalize W3.drew = Wd at KT hHeld ⊢
  refine wk 0 hHeld ?_
  refine wk 1 hHeld ?_
  refine wk 2 hHeld ?_
  refine wk 3 hHeld ?_
  refine wk 4 hHeld ?_
  refine wk 5 hHeld ?_
  refine wpAnyH_ready (rs:=[6,11]) (by kernel_rfl) (by simp) ?_
  refine AllReadyH.cons rfl (fun K hK => ?_) ?_
  ·
   go_simp
   refine (knot_any v0 v1 HO.out.2.2 _).mono ?_
   rintro e w7 ⟨hk7,v7,rfl,t7⟩
   obtain ⟨s7,ao7,ap7,k7,c7,j7,d7,rfl⟩:=t7.shape
   refine hK.out _ _ (sS.out _ (KT.trans hk7)) (fun hHeld => ?_)
   clear hK K
   have KT:=KT.trans hk7
   refine wpAnyH_ready (rs:=[7,11]) (by kernel_rfl) (by simp) ?_
   refine AllReadyH.cons rfl (fun K hK => ?_) ?_
   ·
    go_simp
    refine (rt_mul _ (HT5.out.kept KT) t7 (by decide) (by decide) HB.out (by decide)).mono ?_
    rintro e w8 ⟨hk8,v8,rfl,t8⟩
    obtain ⟨s9,ao9,ap9,k9,c9,j9,d9,rfl⟩:=t8.shape
    have t8:=RT.mono t8 KT.size
    refine hK.out _ _ (sS.out _ (KT.trans hk8)) (fun hHeld => ?_)
    clear hK K
    have t7:=RT.kept t7 hk8
    have KT:=KT.trans hk8
    refine wk 8 hHeld ?_
    refine wk 9 hHeld ?_
    refine wk 10 hHeld ?_
    refine rdy 11 fun K hK => ?_
    go_simp
    refine hK.out _ _ (sS.out _ (KT.alloc _)) (fun hHeld => ?_)
    clear hK K
    have zp9:=F.RRow.alloc w8 (.bool false) (.slice none 0 0) (.bool false) (.slice none 0 0)
    have hgp9:W3.heap.size<=w8.heap.size:=KT.size
    have t7:=RT.kept t7 ((Kept.refl w8).alloc (.cells #[.bool false,.slice none 0 0,.bool false,.slice none 0 0] 29))
    have t8:=RT.kept t8 ((Kept.refl w8).alloc (.cells #[.bool false,.slice none 0 0,.bool false,.slice none 0 0] 29))
    have KT:=KT.alloc (.cells #[.bool false,.slice none 0 0,.bool false,.slice none 0 0] 29)
    obtain ⟨p9,hpp9⟩:∃ p,p = w8.heap.size:=⟨_,rfl⟩
    rw [<- hpp9] at zp9 hgp9 ⊢
    generalize w8.alloc (.cells #[.bool false,.slice none 0 0,.bool false,.slice none 0 0] 29) = Wa11 at zp9 t7 t8 KT hHeld ⊢
    clear hpp9
    have cp90:=zp9.c0
    have cp91:=zp9.c1
    have cp92:=zp9.c2
    have cp93:=zp9.c3
    have gp90:=zp9.fz 0
    have gp91:=zp9.fz 1
    have gp92:=zp9.fz 2
    have gp93:=zp9.fz 3
    refine rdy 12 fun K hK => ?_
    go_simp
    refine hK.out _ _ (sS.out _ (Q.Kept.put4 KT hgp9 _ _ _ _)) (fun hHeld => ?_)
    clear hK K
    have ep9:=rrow_put4 zp9 (.bool s9) (.slice ao9 k9 c9) (.bool false) (.slice ap9 j9 d9)
    have t7:=RT.put4 t7 zp9 (.bool s9) (.slice ao9 k9 c9) (.bool false) (.slice ap9 j9 d9)
    have t8:=RT.put4 t8 zp9 (.bool s9) (.slice ao9 k9 c9) (.bool false) (.slice ap9 j9 d9)
    have KT:=Q.Kept.put4 KT hgp9 (.bool s9) (.slice ao9 k9 c9) (.bool false) (.slice ap9 j9 d9)
    clear cp90 cp91 cp92 cp93 gp90 gp91 gp92 gp93 zp9
    unfold Q.put4 at t7 t8 KT ep9
    generalize (((Wa11.setCell ⟨p9,0,none⟩ (.bool s9)).setCell ⟨p9,1,none⟩ (.slice ao9 k9 c9)).setCell ⟨p9,2,none⟩ (.bool false)).setCell ⟨p9,3,none⟩ (.slice ap9 j9 d9) = Ws at ep9 t7 t8 KT hHeld ⊢
    refine wk 13 hHeld ?_
    refine dn ?_
    go_wp2_with fail
    go_meet
    case rel => exact ⟨p9,s9,ao9,ap9,k9,c9,j9,d9,rfl,KT,ep9,t8⟩
   refine AllReadyH.cons rfl (fun K hK => ?_) AllReadyH.nil
   go_simp
   refine hK.out _ _ (sS.out _ (KT.alloc _)) (fun hHeld => ?_)
   clear hK K
   have zp9:=F.RRow.alloc w7 (.bool false) (.slice none 0 0) (.bool false) (.slice none 0 0)
   have hgp9:W3.heap.size<=w7.heap.size:=KT.size
   have t7:=RT.kept t7 ((Kept.refl w7).alloc (.cells #[.bool false,.slice none 0 0,.bool false,.slice none 0 0] 29))
   have KT:=KT.alloc (.cells #[.bool false,.slice none 0 0,.bool false,.slice none 0 0] 29)
   obtain ⟨p9,hpp9⟩:∃ p,p = w7.heap.size:=⟨_,rfl⟩
   rw [<- hpp9] at zp9 hgp9 ⊢
   generalize w7.alloc (.cells #[.bool false,.slice none 0 0,.bool false,.slice none 0 0] 29) = Wa11 at zp9 t7 KT hHeld ⊢
   clear hpp9
   refine rdy 7 fun K hK => ?_
   go_simp
   refine (rt_mul _ (HT5.out.kept KT) t7 (by decide) (by decide) HB.out (by decide)).mono ?_
   rintro e w8 ⟨hk8,v8,rfl,t8⟩
   obtain ⟨s9,ao9,ap9,k9,c9,j9,d9,rfl⟩:=t8.shape
   have t8:=RT.mono t8 KT.size
   refine hK.out _ _ (sS.out _ (KT.trans hk8)) (fun hHeld => ?_)
   clear hK K
   have zp9:=zp9.kept hk8
   have t7:=RT.kept t7 hk8
   have KT:=KT.trans hk8
   refine wk 8 hHeld ?_
   refine wk 9 hHeld ?_
   refine wk 10 hHeld ?_
   have cp90:=zp9.c0
   have cp91:=zp9.c1
   have cp92:=zp9.c2
   have cp93:=zp9.c3
   have gp90:=zp9.fz 0
   have gp91:=zp9.fz 1
   have gp92:=zp9.fz 2
   have gp93:=zp9.fz 3
   refine rdy 12 fun K hK => ?_
   go_simp
   refine hK.out _ _ (sS.out _ (Q.Kept.put4 KT hgp9 _ _ _ _)) (fun hHeld => ?_)
   clear hK K
   have ep9:=rrow_put4 zp9 (.bool s9) (.slice ao9 k9 c9) (.bool false) (.slice ap9 j9 d9)
   have t7:=RT.put4 t7 zp9 (.bool s9) (.slice ao9 k9 c9) (.bool false) (.slice ap9 j9 d9)
   have t8:=RT.put4 t8 zp9 (.bool s9) (.slice ao9 k9 c9) (.bool false) (.slice ap9 j9 d9)
   have KT:=Q.Kept.put4 KT hgp9 (.bool s9) (.slice ao9 k9 c9) (.bool false) (.slice ap9 j9 d9)
   clear cp90 cp91 cp92 cp93 gp90 gp91 gp92 gp93 zp9
   unfold Q.put4 at t7 t8 KT ep9
   generalize (((w8.setCell ⟨p9,0,none⟩ (.bool s9)).setCell ⟨p9,1,none⟩ (.slice ao9 k9 c9)).setCell ⟨p9,2,none⟩ (.bool false)).setCell ⟨p9,3,none⟩ (.slice ap9 j9 d9) = Ws at ep9 t7 t8 KT hHeld ⊢
   refine wk 13 hHeld ?_
   refine dn ?_
   go_wp2_with fail
   go_meet
   case rel => exact ⟨p9,s9,ao9,ap9,k9,c9,j9,d9,rfl,KT,ep9,t8⟩
  refine AllReadyH.cons rfl (fun K hK => ?_) AllReadyH.nil
  go_simp
  refine hK.out _ _ (sS.out _ (KT.alloc _)) (fun hHeld => ?_)
  clear hK K
  have zp9:=F.RRow.alloc Wd (.bool false) (.slice none 0 0) (.bool false) (.slice none 0 0)
  have hgp9:W3.heap.size<=Wd.heap.size:=KT.size
  have KT:=KT.alloc (.cells #[.bool false,.slice none 0 0,.bool false,.slice none 0 0] 29)
  obtain ⟨p9,hpp9⟩:∃ p,p = Wd.heap.size:=⟨_,rfl⟩
  rw [<- hpp9] at zp9 hgp9 ⊢
  generalize Wd.alloc (.cells #[.bool false,.slice none 0 0,.bool false,.slice none 0 0] 29) = Wa11 at zp9  KT hHeld ⊢
  clear hpp9
  refine rdy 6 fun K hK => ?_
  go_simp
  refine (knot_any v0 v1 HO.out.2.2 _).mono ?_
  rintro e w7 ⟨hk7,v7,rfl,t7⟩
  obtain ⟨s7,ao7,ap7,k7,c7,j7,d7,rfl⟩:=t7.shape
  refine hK.out _ _ (sS.out _ (KT.trans hk7)) (fun hHeld => ?_)
  clear hK K
  have zp9:=zp9.kept hk7
  have KT:=KT.trans hk7
  refine rdy 7 fun K hK => ?_
  go_simp
  refine (rt_mul _ (HT5.out.kept KT) t7 (by decide) (by decide) HB.out (by decide)).mono ?_
  rintro e w8 ⟨hk8,v8,rfl,t8⟩
  obtain ⟨s9,ao9,ap9,k9,c9,j9,d9,rfl⟩:=t8.shape
  have t8:=RT.mono t8 KT.size
  refine hK.out _ _ (sS.out _ (KT.trans hk8)) (fun hHeld => ?_)
  clear hK K
  have zp9:=zp9.kept hk8
  have t7:=RT.kept t7 hk8
  have KT:=KT.trans hk8
  refine wk 8 hHeld ?_
  refine wk 9 hHeld ?_
  refine wk 10 hHeld ?_
  have cp90:=zp9.c0
  have cp91:=zp9.c1
  have cp92:=zp9.c2
  have cp93:=zp9.c3
  have gp90:=zp9.fz 0
  have gp91:=zp9.fz 1
  have gp92:=zp9.fz 2
  have gp93:=zp9.fz 3
  refine rdy 12 fun K hK => ?_
  go_simp
  refine hK.out _ _ (sS.out _ (Q.Kept.put4 KT hgp9 _ _ _ _)) (fun hHeld => ?_)
  clear hK K
  have ep9:=rrow_put4 zp9 (.bool s9) (.slice ao9 k9 c9) (.bool false) (.slice ap9 j9 d9)
  have t7:=RT.put4 t7 zp9 (.bool s9) (.slice ao9 k9 c9) (.bool false) (.slice ap9 j9 d9)
  have t8:=RT.put4 t8 zp9 (.bool s9) (.slice ao9 k9 c9) (.bool false) (.slice ap9 j9 d9)
  have KT:=Q.Kept.put4 KT hgp9 (.bool s9) (.slice ao9 k9 c9) (.bool false) (.slice ap9 j9 d9)
  clear cp90 cp91 cp92 cp93 gp90 gp91 gp92 gp93 zp9
  unfold Q.put4 at t7 t8 KT ep9
  generalize (((w8.setCell ⟨p9,0,none⟩ (.bool s9)).setCell ⟨p9,1,none⟩ (.slice ao9 k9 c9)).setCell ⟨p9,2,none⟩ (.bool false)).setCell ⟨p9,3,none⟩ (.slice ap9 j9 d9) = Ws at ep9 t7 t8 KT hHeld ⊢
  refine wk 13 hHeld ?_
  refine dn ?_
  go_wp2_with fail
  go_meet
  case rel => exact ⟨p9,s9,ao9,ap9,k9,c9,j9,d9,rfl,KT,ep9,t8⟩
 obtain ⟨p9,s9,ao9,ap9,k9,c9,j9,d9,rfl,HD⟩:=hcut
 have hZ:=HK.out.2.2.kept HD.out.1
 have f0:=HD.out.2.1.c0
 have f1:=HD.out.2.1.c1
 have f2:=HD.out.2.1.c2
 have f3:=HD.out.2.1.c3
 have g0:=hZ.c0
 have g1:=hZ.c1
 have g2:=hZ.c2
 have g3:=hZ.c3
 have z:=hZ.fz
 have HZ:=hid' hZ
 clear hZ
 go_wp2_with fail
 exact bodyPost_ret (v:=(.agg #[.bool s9,.slice ao9 k9 c9,.bool false,.slice ap9 j9 d9])) (by simp [results,Tryz.results70,go_sem,g0,g1,g2,g3]) rfl ⟨kept_set4 (HK.out.1.trans HD.out.1) HQW.out _ _ _ _,_,rfl,by rw [show (10 ^ 54:Nat) = 10 ^ 18 * 10 ^ 36 by decide]; exact RT.set4 (HD.out.2.2.mono HK.out.1.size) HZ.out _ _ _ _⟩
end V
end Go.Proofs.YthfbfbfambbkaaaGreatDoor
namespace Go.Proofs.YthfbfbfambbkaaaGreatDoor
open Go.RowKit
namespace V
open Q (okN okN_bd Scl RQ hid' Row3 Row2)
def jmp (gs vs:List (Int × Int)) (i:Nat):Int:=(U (gs.getD i (0,0)).1 (gs.getD i (0,0)).2 - U (gs.getD (i + 1) (0,0)).1 (gs.getD (i + 1) (0,0)).2) * (U (vs.getD i (0,0)).1 (vs.getD i (0,0)).2 * 10 ^ 27)
def ownS (gs vs:List (Int × Int)):Nat->Int
 | 0 => 0
 | k + 1 => ownS gs vs k + jmp gs vs k
def ownK (kd:Int) (gs vs:List (Int × Int)) (k:Nat):Int:=if kd = 115 then 0 else ownS gs vs k
theorem jmp_bd {gs vs:List (Int × Int)} {i:Nat} {n m:Nat} (hg:∀ i,i < n->okN (gs.getD i (0,0)).1 (gs.getD i (0,0)).2 = true) (hv:∀ i,i < m->okN (vs.getD i (0,0)).1 (vs.getD i (0,0)).2 = true) (h1:i + 1 < n) (h2:i < m):(jmp gs vs i).natAbs<=10 ^ 100:=by
 have e1:=u_abs (hg i (by omega))
 have e2:=u_abs (hg (i + 1) h1)
 have e3:=u_abs (hv i h2)
 unfold jmp
 rw [Int.natAbs_mul,Int.natAbs_mul]
 have e4:(U (gs.getD i (0,0)).1 (gs.getD i (0,0)).2 - U (gs.getD (i + 1) (0,0)).1 (gs.getD (i + 1) (0,0)).2).natAbs<=2 * 10 ^ 36:=by omega
 exact Nat.le_trans (Nat.mul_le_mul e4 (Nat.mul_le_mul e3 (Nat.le_refl _))) (by decide)
theorem ownS_le {gs vs:List (Int × Int)} {n m:Nat} (hg:∀ i,i < n->okN (gs.getD i (0,0)).1 (gs.getD i (0,0)).2 = true) (hv:∀ i,i < m->okN (vs.getD i (0,0)).1 (vs.getD i (0,0)).2 = true):∀ k,k < n->k<=m->(ownS gs vs k).natAbs<=k * 10 ^ 100
 | 0,_,_ => by simp [ownS]
 | k + 1,h1,h2 => by
  have a:=ownS_le hg hv k (by omega) (by omega)
  have b:=jmp_bd hg hv h1 h2
  rw [ownS]
  omega
theorem ownS_bd {gs vs:List (Int × Int)} {n m k:Nat} (hg:∀ i,i < n->okN (gs.getD i (0,0)).1 (gs.getD i (0,0)).2 = true) (hv:∀ i,i < m->okN (vs.getD i (0,0)).1 (vs.getD i (0,0)).2 = true) (h1:k + 1 < n) (h2:k < m) (h3:k + 1<=4):(ownS gs vs k + jmp gs vs k).natAbs<=10 ^ 200:=by
 have:=ownS_le hg hv (k + 1) h1 (by omega)
 rw [ownS] at this
 exact Nat.le_trans this (Nat.le_trans (Nat.mul_le_mul_right _ h3) (by decide))
set_option maxRecDepth 100000 in
set_option maxHeartbeats 8000000 in
theorem ownM_any (s:ByteArray) (kd:Int) (a1 a2:Option Addr) (n c m c':Nat) (gs vs:List (Int × Int)) (kk:Nat) (w:World) (h1:NSl w (.slice a1 n c) gs) (h2:NSl w (.slice a2 m c') vs) (hn:n<=4611686018427387903) (hnm:n = m + 1/\n<=4) (hk:kk < n) (hg:∀ i,i < n->okN (gs.getD i (0,0)).1 (gs.getD i (0,0)).2 = true) (hv:∀ i,i < m->okN (vs.getD i (0,0)).1 (vs.getD i (0,0)).2 = true) :
  Calls Tryz.prog 32 #[.agg #[.string s,.int .u8 kd,.slice a1 n c,.slice a2 m c'],.int .i64 (kk:Int)] w fun e w' => Kept w w'/\∃ u,e = .returned u/\RT w.heap.size w' u (ownK kd gs vs kk) (10 ^ 54):=by
 have HS:=hid' (And.intro h1 (And.intro h2 (And.intro hg hv)))
 have HL:=hid' (And.intro hnm hk)
 clear h1 h2 hg hv hnm hk
 go_enter Tryz.func32,Tryz.ntmps32
 go_upto_region 1 with fail
 have hM:=(Row4.alloc 24 w (.string s) (.int .u8 kd) (.slice a1 n c) (.slice a2 m c')).kept ((Kept.refl (w.alloc (.cells #[.string s,.int .u8 kd,.slice a1 n c,.slice a2 m c'] 24))).alloc (.cells #[.bool false,.slice none 0 0,.bool false,.slice none 0 0] 29))
 have hZ:=F.RRow.alloc (w.alloc (.cells #[.string s,.int .u8 kd,.slice a1 n c,.slice a2 m c'] 24)) (.bool false) (.slice none 0 0) (.bool false) (.slice none 0 0)
 have hK:=((Kept.refl w).alloc (.cells #[.string s,.int .u8 kd,.slice a1 n c,.slice a2 m c'] 24)).alloc (.cells #[.bool false,.slice none 0 0,.bool false,.slice none 0 0] 29)
 rw [World.size_alloc] at hZ
 generalize (w.alloc (.cells #[.string s,.int .u8 kd,.slice a1 n c,.slice a2 m c'] 24)).alloc (.cells #[.bool false,.slice none 0 0,.bool false,.slice none 0 0] 29) = W at hM hZ hK ⊢
 obtain ⟨q,hq⟩:∃ q,q = w.heap.size + 1:=⟨_,rfl⟩
 rw [<- hq] at hZ ⊢
 have HQW:=hid' (show w.heap.size<=q by omega)
 obtain ⟨p,hp⟩:∃ q,q = w.heap.size:=⟨_,rfl⟩
 rw [<- hp] at hM ⊢
 clear hq hp
 have HW:=hid' (And.intro hK (And.intro hM hZ))
 clear hM hZ hK
 go_wp2_with fail
 refine (rt_value 0 0 (by decide +kernel) _).mono ?_
 rintro e w0 ⟨hk0,u0,rfl,t0⟩
 obtain ⟨s1,ao1,ap1,k1,c1,j1,d1,rfl⟩:=t0.shape
 go_upto_region 2 with fail
 have kp5:=(Kept.refl w0).alloc (.cells #[.bool s1,.slice ao1 k1 c1,.bool false,.slice ap1 j1 d1] 29)
 have r5:=F.RRow.alloc w0 (.bool s1) (.slice ao1 k1 c1) (.bool false) (.slice ap1 j1 d1)
 generalize w0.alloc (.cells #[.bool s1,.slice ao1 k1 c1,.bool false,.slice ap1 j1 d1] 29) = W1 at kp5 r5 ⊢
 obtain ⟨p5,hp5⟩:∃ p,p = w0.heap.size:=⟨_,rfl⟩
 rw [<- hp5] at r5 ⊢
 have HPQ:=hid' hp5
 clear hp5
 have kk1:=hk0.trans kp5
 have HP5:=hid' (show W.heap.size<=p5 by have h1:=HPQ.out; have h2:=hk0.size; omega)
 have HT:Hid (Kept W W1/\F.RRow W1 p5 (.bool s1) (.slice ao1 k1 c1) (.bool false) (.slice ap1 j1 d1)/\RT w.heap.size W1 (.agg #[.bool s1,.slice ao1 k1 c1,.bool false,.slice ap1 j1 d1]) 0 (10 ^ 54)):=⟨kk1,r5,by
  have t:=RT.scale (RT.mono (t0.kept kp5) HW.out.1.size) (10 ^ 36)
  rw [show U 0 0 = 0 by decide +kernel,Int.zero_mul,show (10 ^ 18 * 10 ^ 36:Nat) = 10 ^ 54 by decide] at t
  exact t⟩
 clear hk0 kp5 t0 r5 kk1
 have q1:=(HW.out.2.1.kept HT.out.1).c1
 by_cases hkd:kd = 115
 ·
  have HKD:=hid' hkd
  have hZ:=HW.out.2.2.kept HT.out.1
  have hR:=HT.out.2.1
  have f0:=hR.c0
  have f1:=hR.c1
  have f2:=hR.c2
  have f3:=hR.c3
  have g0:=hZ.c0
  have g1:=hZ.c1
  have g2:=hZ.c2
  have g3:=hZ.c3
  have z:=hZ.fz
  have HZ:=hid' hZ
  clear hZ hR
  go_wp2_with fail
  exact bodyPost_ret (v:=(.agg #[.bool s1,.slice ao1 k1 c1,.bool false,.slice ap1 j1 d1])) (by simp [results,Tryz.results32,go_sem,g0,g1,g2,g3]) rfl ⟨kept_set4 (HW.out.1.trans HT.out.1) HQW.out _ _ _ _,_,rfl,by unfold ownK; rw [if_pos HKD.out]; exact RT.set4 HT.out.2.2 HZ.out _ _ _ _⟩
 ·
  have HKD:=hid' hkd
  have hkb:(kd == 115) = false:=by simpa using hkd
  have hk4:kk < 4:=by have:=HL.out; omega
  go_wp2_with fail
  go_loopw [18] (fun vi wr => ∃ (i:Nat) (s5:Bool) (ao5 ap5:Option Addr) (k5 c5 j5 d5:Nat),i<=kk/\vi = .int .i64 (i:Int)/\Hid (Kept W wr/\F.RRow wr p5 (.bool s5) (.slice ao5 k5 c5) (.bool false) (.slice ap5 j5 d5)/\RT w.heap.size wr (.agg #[.bool s5,.slice ao5 k5 c5,.bool false,.slice ap5 j5 d5]) (ownS gs vs i) (10 ^ 54))) (fun vi _ => kk - (intOf vi).toNat)
  case atStart => exact ⟨0,s1,ao1,ap1,k1,c1,j1,d1,Nat.zero_le _,rfl,HT.out⟩
  case round =>
   obtain ⟨i,s5,ao5,ap5,k5,c5,j5,d5,hik,rfl,H⟩:=hrel
   by_cases hlt:i < kk
   ·
    have hlt':(i:Int) < (kk:Int):=by omega
    clear q1
    have KT:Kept W wr.drew:=H.out.1.drew
    have KR:Kept wr wr.drew:=(Kept.refl _).drew
    have sS:=hid' (fun (V:World) (K:Kept W V) => (show V.cell? ⟨p,0,none⟩ = some (.string s)/\V.cell? ⟨p,1,none⟩ = some (.int .u8 kd)/\V.cell? ⟨p,2,none⟩ = some (.slice a1 n c)/\V.cell? ⟨p,3,none⟩ = some (.slice a2 m c') from ⟨(HW.out.2.1.kept K).c0,(HW.out.2.1.kept K).c1,(HW.out.2.1.kept K).c2,(HW.out.2.1.kept K).c3⟩))
    go_upto_region 7 with fail
    refine wp_region_held_drew (S:=fun w' => w'.cell? ⟨p,0,none⟩ = some (.string s)/\w'.cell? ⟨p,1,none⟩ = some (.int .u8 kd)/\w'.cell? ⟨p,2,none⟩ = some (.slice a1 n c)/\w'.cell? ⟨p,3,none⟩ = some (.slice a2 m c')) (by kernel_rfl) (sS.out _ KT) (fun hHeld => ?_)
    generalize wr.drew = Wd at KT KR hHeld ⊢
    refine wk 1 hHeld ?_
    refine wk 2 hHeld ?_
    refine wpAnyH_ready (rs:=[0,3]) (by kernel_rfl) (by simp) ?_
    refine AllReadyH.cons rfl (fun K hK => ?_) (AllReadyH.cons rfl (fun K hK => ?_) AllReadyH.nil)
    ·
     have hr:=H.out.2.1.kept KR
     have f0:=hr.c0
     have f1:=hr.c1
     have f2:=hr.c2
     have f3:=hr.c3
     go_simp
     refine hK.out _ _ (sS.out _ KT) (fun hHeld => ?_)
     clear hK K hr f0 f1 f2 f3
     refine rdy 3 fun K hK => ?_
     go_simp
     refine (jumpM_any s kd a1 a2 n c m c' gs vs i _ (HS.out.1.kept (HW.out.1.trans KT)) (HS.out.2.1.kept (HW.out.1.trans KT)) hn (by have:=HL.out; omega) (by have:=HL.out; omega) _ _ _ _ _ _ rfl rfl rfl (HS.out.2.2.1 i (by have:=HL.out; omega)) (HS.out.2.2.1 (i + 1) (by have:=HL.out; omega)) (HS.out.2.2.2 i (by have:=HL.out; omega))).mono ?_
     rintro e w1 ⟨hk1,u1,rfl,t1⟩
     obtain ⟨s7,ao7,ap7,k7,c7,j7,d7,rfl⟩:=t1.shape
     refine hK.out _ _ (sS.out _ (KT.trans hk1)) (fun hHeld => ?_)
     clear hK K
     have KT:=KT.trans hk1
     have KR:=KR.trans hk1
     clear hk1
     refine rdy 4 fun K hK => ?_
     go_simp
     refine (rt_add _ (H.out.2.2.kept KR) t1 (by decide) (ownS_bd HS.out.2.2.1 HS.out.2.2.2 (by have:=HL.out; omega) (by have:=HL.out; omega) (by have:=HL.out; omega)) (by decide)).mono ?_
     rintro e w2 ⟨hk2,u2,rfl,t2⟩
     obtain ⟨s9,ao9,ap9,k9,c9,j9,d9,rfl⟩:=t2.shape
     have t2:=RT.mono t2 (show w.heap.size<=_ from (HW.out.1.trans KT).size)
     refine hK.out _ _ (sS.out _ (KT.trans hk2)) (fun hHeld => ?_)
     clear hK K t1
     have KT:=KT.trans hk2
     have KR:=KR.trans hk2
     clear hk2
     refine wk 5 hHeld ?_
     refine wk 6 hHeld ?_
     refine wk 7 hHeld ?_
     have hr:=H.out.2.1.kept KR
     have f0:=hr.c0
     have f1:=hr.c1
     have f2:=hr.c2
     have f3:=hr.c3
     have z:=hr.fz
     refine rdy 8 fun K hK => ?_
     go_simp
     refine hK.out _ _ (sS.out _ (kept_set4 KT HP5.out _ _ _ _)) (fun hHeld => ?_)
     clear hK K
     refine dn ?_
     have HN:Hid (Kept W ((((w2.setCell ⟨p5,0,none⟩ (.bool s9)).setCell ⟨p5,1,none⟩ (.slice ao9 k9 c9)).setCell ⟨p5,2,none⟩ (.bool false)).setCell ⟨p5,3,none⟩ (.slice ap9 j9 d9))/\F.RRow ((((w2.setCell ⟨p5,0,none⟩ (.bool s9)).setCell ⟨p5,1,none⟩ (.slice ao9 k9 c9)).setCell ⟨p5,2,none⟩ (.bool false)).setCell ⟨p5,3,none⟩ (.slice ap9 j9 d9)) p5 (.bool s9) (.slice ao9 k9 c9) (.bool false) (.slice ap9 j9 d9)/\RT w.heap.size ((((w2.setCell ⟨p5,0,none⟩ (.bool s9)).setCell ⟨p5,1,none⟩ (.slice ao9 k9 c9)).setCell ⟨p5,2,none⟩ (.bool false)).setCell ⟨p5,3,none⟩ (.slice ap9 j9 d9)) (.agg #[.bool s9,.slice ao9 k9 c9,.bool false,.slice ap9 j9 d9]) (ownS gs vs (i + 1)) (10 ^ 54)) :=
      ⟨kept_set4 KT HP5.out _ _ _ _,F.RRow.set hr _ _ _ _,RT.set4 t2 hr _ _ _ _⟩
     generalize (((w2.setCell ⟨p5,0,none⟩ (.bool s9)).setCell ⟨p5,1,none⟩ (.slice ao9 k9 c9)).setCell ⟨p5,2,none⟩ (.bool false)).setCell ⟨p5,3,none⟩ (.slice ap9 j9 d9) = W6 at HN hHeld ⊢
     clear hr f0 f1 f2 f3 z t2 KT KR sS hHeld
     go_wp2_with fail
     go_roundw
     case rel => exact ⟨i + 1,s9,ao9,ap9,k9,c9,j9,d9,by omega,by go_num,HN.out⟩
     case measure => show kk - ((i:Int) + 1).toNat < kk - (i:Int).toNat; omega
    ·
     go_simp
     refine (jumpM_any s kd a1 a2 n c m c' gs vs i _ (HS.out.1.kept (HW.out.1.trans KT)) (HS.out.2.1.kept (HW.out.1.trans KT)) hn (by have:=HL.out; omega) (by have:=HL.out; omega) _ _ _ _ _ _ rfl rfl rfl (HS.out.2.2.1 i (by have:=HL.out; omega)) (HS.out.2.2.1 (i + 1) (by have:=HL.out; omega)) (HS.out.2.2.2 i (by have:=HL.out; omega))).mono ?_
     rintro e w1 ⟨hk1,u1,rfl,t1⟩
     obtain ⟨s7,ao7,ap7,k7,c7,j7,d7,rfl⟩:=t1.shape
     refine hK.out _ _ (sS.out _ (KT.trans hk1)) (fun hHeld => ?_)
     clear hK K
     have KT:=KT.trans hk1
     have KR:=KR.trans hk1
     clear hk1
     refine wpAnyH_ready (rs:=[0]) (by kernel_rfl) (by simp) ?_
     refine AllReadyH.cons rfl (fun K hK => ?_) AllReadyH.nil
     have hr:=H.out.2.1.kept KR
     have f0:=hr.c0
     have f1:=hr.c1
     have f2:=hr.c2
     have f3:=hr.c3
     go_simp
     refine hK.out _ _ (sS.out _ KT) (fun hHeld => ?_)
     clear hK K hr f0 f1 f2 f3
     refine rdy 4 fun K hK => ?_
     go_simp
     refine (rt_add _ (H.out.2.2.kept KR) t1 (by decide) (ownS_bd HS.out.2.2.1 HS.out.2.2.2 (by have:=HL.out; omega) (by have:=HL.out; omega) (by have:=HL.out; omega)) (by decide)).mono ?_
     rintro e w2 ⟨hk2,u2,rfl,t2⟩
     obtain ⟨s9,ao9,ap9,k9,c9,j9,d9,rfl⟩:=t2.shape
     have t2:=RT.mono t2 (show w.heap.size<=_ from (HW.out.1.trans KT).size)
     refine hK.out _ _ (sS.out _ (KT.trans hk2)) (fun hHeld => ?_)
     clear hK K t1
     have KT:=KT.trans hk2
     have KR:=KR.trans hk2
     clear hk2
     refine wk 5 hHeld ?_
     refine wk 6 hHeld ?_
     refine wk 7 hHeld ?_
     have hr:=H.out.2.1.kept KR
     have f0:=hr.c0
     have f1:=hr.c1
     have f2:=hr.c2
     have f3:=hr.c3
     have z:=hr.fz
     refine rdy 8 fun K hK => ?_
     go_simp
     refine hK.out _ _ (sS.out _ (kept_set4 KT HP5.out _ _ _ _)) (fun hHeld => ?_)
     clear hK K
     refine dn ?_
     have HN:Hid (Kept W ((((w2.setCell ⟨p5,0,none⟩ (.bool s9)).setCell ⟨p5,1,none⟩ (.slice ao9 k9 c9)).setCell ⟨p5,2,none⟩ (.bool false)).setCell ⟨p5,3,none⟩ (.slice ap9 j9 d9))/\F.RRow ((((w2.setCell ⟨p5,0,none⟩ (.bool s9)).setCell ⟨p5,1,none⟩ (.slice ao9 k9 c9)).setCell ⟨p5,2,none⟩ (.bool false)).setCell ⟨p5,3,none⟩ (.slice ap9 j9 d9)) p5 (.bool s9) (.slice ao9 k9 c9) (.bool false) (.slice ap9 j9 d9)/\RT w.heap.size ((((w2.setCell ⟨p5,0,none⟩ (.bool s9)).setCell ⟨p5,1,none⟩ (.slice ao9 k9 c9)).setCell ⟨p5,2,none⟩ (.bool false)).setCell ⟨p5,3,none⟩ (.slice ap9 j9 d9)) (.agg #[.bool s9,.slice ao9 k9 c9,.bool false,.slice ap9 j9 d9]) (ownS gs vs (i + 1)) (10 ^ 54)) :=
      ⟨kept_set4 KT HP5.out _ _ _ _,F.RRow.set hr _ _ _ _,RT.set4 t2 hr _ _ _ _⟩
     generalize (((w2.setCell ⟨p5,0,none⟩ (.bool s9)).setCell ⟨p5,1,none⟩ (.slice ao9 k9 c9)).setCell ⟨p5,2,none⟩ (.bool false)).setCell ⟨p5,3,none⟩ (.slice ap9 j9 d9) = W6 at HN hHeld ⊢
     clear hr f0 f1 f2 f3 z t2 KT KR sS hHeld
     go_wp2_with fail
     go_roundw
     case rel => exact ⟨i + 1,s9,ao9,ap9,k9,c9,j9,d9,by omega,by go_num,HN.out⟩
     case measure => show kk - ((i:Int) + 1).toNat < kk - (i:Int).toNat; omega
   ·
    have hlt':¬ (i:Int) < (kk:Int):=by omega
    have hke:i = kk:=by omega
    subst hke
    clear q1
    have hZ:=HW.out.2.2.kept H.out.1
    have hR:=H.out.2.1
    have f0:=hR.c0
    have f1:=hR.c1
    have f2:=hR.c2
    have f3:=hR.c3
    have g0:=hZ.c0
    have g1:=hZ.c1
    have g2:=hZ.c2
    have g3:=hZ.c3
    have z:=hZ.fz
    have HZ:=hid' hZ
    clear hZ hR
    go_wp2_with fail
    exact bodyPost_ret (v:=(.agg #[.bool s5,.slice ao5 k5 c5,.bool false,.slice ap5 j5 d5])) (by simp [results,Tryz.results32,go_sem,g0,g1,g2,g3]) rfl ⟨kept_set4 (HW.out.1.trans H.out.1) HQW.out _ _ _ _,_,rfl,by unfold ownK; rw [if_neg HKD.out]; exact RT.set4 H.out.2.2 HZ.out _ _ _ _⟩
end V
end Go.Proofs.YthfbfbfambbkaaaGreatDoor
namespace Go.Proofs.YthfbfbfambbkaaaGreatDoor
open Go.RowKit
namespace V
open Q (hid' Row3 Row2 okN okN_bd Scl)
def sideS (N:Int) (D:Nat) (vs:List (Int × Int)) (i:Nat):Int :=
 if 0 < i/\agn N D (vs.getD (i - 1) (0,0)) < 0 then -1 else if i < vs.length/\0 < agn N D (vs.getD i (0,0)) then 1 else 0
def SideIs (r:Int) (sg nA:Bool) (an ad:List Nat) (vs:List (Int × Int)) (i z f:Int):Prop :=
 (¬ r = 0/\z = 0/\f = r) ∨ (r = 0/\∃ cc,F.Refused 1 (fun _ => sg) (fun _ => nA) (fun _ => an) (fun _ => ad) cc/\((¬ cc = 0/\z = 0/\f = cc) ∨ (cc = 0/\f = 0/\z = sideS (M.int sg an) (M.val ad) vs i.toNat)))
def kn (vs:List (Int × Int)) (i:Nat):Int:=U (vs.getD i (0,0)).1 (vs.getD i (0,0)).2 * 10 ^ 27
theorem agn_lt {N:Int} {D:Nat} {vs:List (Int × Int)} {i:Nat}:agn N D (vs.getD i (0,0)) < 0 ↔ N * 10 ^ 36 < kn vs i * D:=by
 unfold agn kn isgn; split <;> (try split) <;> omega
theorem agn_gt {N:Int} {D:Nat} {vs:List (Int × Int)} {i:Nat}:0 < agn N D (vs.getD i (0,0)) ↔ kn vs i * D < N * 10 ^ 36:=by
 unfold agn kn isgn; split <;> (try split) <;> omega
theorem kn_step {vs:List (Int × Int)} (h:riseN vs = true) {i:Nat} (hi:i + 1 < vs.length):kn vs i < kn vs (i + 1):=by
 unfold riseN at h
 have:=of_decide_eq_true h i (by omega)
 unfold kn
 exact Int.mul_lt_mul_of_pos_right this (by decide)
theorem kn_up {vs:List (Int × Int)} (h:riseN vs = true) {i:Nat}:∀ {j:Nat},i < j->j < vs.length->kn vs i < kn vs j
 | 0,h1,_ => by omega
 | j + 1,h1,h2 => by
  have e:=kn_step h h2
  by_cases hj:i = j
  ·
   subst hj; exact e
  ·
   exact Int.lt_trans (kn_up h (show i < j by omega) (by omega)) e
theorem kn_le {vs:List (Int × Int)} (h:riseN vs = true) {i j:Nat} (h1:i<=j) (h2:j < vs.length):kn vs i<=kn vs j:=by
 by_cases e:i = j
 ·
  subst e; exact Int.le_refl _
 ·
  exact Int.le_of_lt (kn_up h (by omega) h2)
theorem cntA_spec (N:Int) (D:Nat):∀ vs:List (Int × Int),cntA N D vs<=vs.length/\(∀ j,j < cntA N D vs->0 < agn N D (vs.getD j (0,0)))/\(cntA N D vs < vs.length->¬ 0 < agn N D (vs.getD (cntA N D vs) (0,0)))
 | [] => ⟨Nat.le_refl _,fun j hj => absurd hj (Nat.not_lt_zero _),fun h => absurd h (Nat.lt_irrefl _)⟩
 | v :: vs => by
  obtain ⟨h1,h2,h3⟩:=cntA_spec N D vs
  by_cases h:0 < agn N D v
  ·
   have e:cntA N D (v :: vs) = cntA N D vs + 1:=by rw [cntA,if_pos h]
   rw [e]
   refine ⟨by rw [List.length_cons]; omega,fun j hj => ?_,fun hl => ?_⟩
   ·
    match j,hj with
    | 0,_ => exact h
    | j + 1,hj => exact h2 j (by omega)
   ·
    rw [List.length_cons] at hl
    exact h3 (by omega)
  ·
   have e:cntA N D (v :: vs) = 0:=by rw [cntA,if_neg h]
   rw [e]
   exact ⟨Nat.zero_le _,fun j hj => absurd hj (Nat.not_lt_zero _),fun _ => h⟩
theorem side_walk {N:Int} {D:Nat} {vs:List (Int × Int)} (hD:0 < D) (hr:riseN vs = true) {k:Nat} (hk:k<=vs.length) :
  (sideS N D vs k = 0/\(cntA N D vs = k ∨ cntA N D vs + 1 = k)) ∨ (sideS N D vs k = 1/\k < cntA N D vs) ∨ (sideS N D vs k = -1/\cntA N D vs < k):=by
 obtain ⟨h1,h2,h3⟩:=cntA_spec N D vs
 generalize cntA N D vs = c at *
 have pD:(0:Int) < (D:Int):=by omega
 unfold sideS
 by_cases a:0 < k/\agn N D (vs.getD (k - 1) (0,0)) < 0
 ·
  rw [if_pos a]
  refine .inr (.inr ⟨rfl,?_⟩)
  apply Classical.byContradiction
  intro hc
  have:=h2 (k - 1) (by omega)
  omega
 ·
  rw [if_neg a]
  by_cases b:k < vs.length/\0 < agn N D (vs.getD k (0,0))
  ·
   rw [if_pos b]
   refine .inr (.inl ⟨rfl,?_⟩)
   apply Classical.byContradiction
   intro hc
   have h4:=h3 (by omega)
   rw [agn_gt] at h4
   have h5:=agn_gt.1 b.2
   have h6:=Int.mul_le_mul_of_nonneg_right (kn_le hr (show c<=k by omega) b.1) (Int.le_of_lt pD)
   omega
  ·
   rw [if_neg b]
   refine .inl ⟨rfl,?_⟩
   by_cases c1:k < c
   ·
    exact absurd ⟨by omega,h2 k c1⟩ b
   ·
    by_cases c2:c + 1 < k
    ·
     exfalso
     apply a
     refine ⟨by omega,agn_lt.2 ?_⟩
     have h4:=h3 (by omega)
     rw [agn_gt] at h4
     have h6:=Int.mul_lt_mul_of_pos_right (kn_up hr (show c < k - 1 by omega) (by omega)) pD
     omega
    ·
     omega
def gn (gs:List (Int × Int)) (i:Nat):Int:=U (gs.getD i (0,0)).1 (gs.getD i (0,0)).2
theorem refM_ok {s:List UInt8} {k:Int} {gs vs:List (Int × Int)} {q:Nat} (h:okM s k gs vs = true) (hq:q < gs.length):refM s k gs vs (q:Int) = 0:=by
 unfold refM
 rw [if_pos h,if_neg (by omega)]
theorem side_ok {s:List UInt8} {k:Int} {gs vs:List (Int × Int)} {sg nA:Bool} {an ad:List Nat} {q:Nat} {z f:Int} (h:okM s k gs vs = true) (hq:q < gs.length) (hR:F.RatR sg nA an ad) (hS:SideIs (refM s k gs vs (q:Int)) sg nA an ad vs (q:Int) z f):f = 0/\z = sideS (M.int sg an) (M.val ad) vs q:=by
 rw [refM_ok h hq] at hS
 rcases hS with ⟨h0,_⟩ | ⟨_,cc,hcc,hz⟩
 ·
  exact absurd rfl h0
 ·
  have e:=F.Refused.single hR hcc
  rcases hz with ⟨h0,_⟩ | ⟨_,hf,hz⟩
  ·
   exact absurd e h0
  ·
   exact ⟨hf,by rw [hz,Int.toNat_natCast]⟩
theorem find_ok {sg nA:Bool} {an ad:List Nat} {vs:List (Int × Int)} {ok:Bool} {z f:Int} (h:ok = true) (hR:F.RatR sg nA an ad) (hS:FindIs ok sg nA an ad vs z f):f = 0/\z = cntA (M.int sg an) (M.val ad) vs:=by
 subst h
 rcases hS with ⟨h0,_⟩ | ⟨_,cc,hcc,hz⟩
 ·
  cases h0
 ·
  have e:=F.Refused.single hR hcc
  rcases hz with ⟨h0,_⟩ | ⟨_,hf,hz⟩
  ·
   exact absurd e h0
  ·
   exact ⟨hf,hz⟩
end V
end Go.Proofs.YthfbfbfambbkaaaGreatDoor
namespace Go.Proofs.YthfbfbfambbkaaaGreatDoor
open Go.RowKit
namespace V
theorem take1 {P:Program} {md:Region.Mode} {ops:Array Oper} {Q:Exit->Act->World->Prop} {S:World->Prop} {i d:Nat} {oi:Oper} {v:Value} {fuel:Nat} {listed:Array Bool} {l:List Value} {df} {w:World} (hi:ops[i]? = some oi) (hd:oi.dst = some d)
  (hs:Region.noSelect ops = true) (hf:Region.free md ops listed i = true) (hr:(Region.ready md ops listed).contains i = true)
  (hQ:∀ c a w,Q (.panic c) (a.put oi.dst v) w->Q (.panic c) a w) (hy:YieldsIf P ops S oi v ⟨l.toArray,df⟩) (hS:S w)
  (h:wpAnyH P md ops Q S fuel (listed.setIfInBounds i true) ⟨(l.set d v).toArray,df⟩ w):wpAnyH P md ops Q S (fuel + 1) listed ⟨l.toArray,df⟩ w:=by
 refine wpAnyH_take hi hs hf hr hQ hy hS ?_
 rw [hd]
 simpa [Act.put] using h
end V
end Go.Proofs.YthfbfbfambbkaaaGreatDoor
