/- toWord of limb. Int64, Fits of limb; Text of a number that isn't right. -/
import Derived.Test.YtgofinhnlcbafaaGreatGae
namespace Go.Proofs.YtgofinhnlcbafaaGreat
open Go.RowKit
set_option maxHeartbeats 1000000 in
theorem toWord_any {v:Value} {l:List Nat} (w:World) (h:Sl w v l) (hl:l.length≤2) :
  Calls Tryz.prog 100 #[v] w fun e w' => Kept w w'∧e = .returned (.int .u64 ((M.val l:Nat):Int)):=by
 have h1:=h.bd.getD 1
 have h0:=h.bd.getD 0
 have hv:M.val l = l.getD 1 0 * 4294967296 + l.getD 0 0:=by
  match l,hl with
  | [],_ => rfl
  | [x],_ => simp [M.val]
  | [x,y],_ => simp [M.val]; omega
 rw [hv]
 have HL:Hid (Sl w v l):=h
 have c1:Calls Tryz.prog 121 #[v,.int .i64 1] w fun e w' => e = .returned (.int .u64 ((l.getD 1 0:Nat):Int))∧w' = w:=limbAt_any w h 1 (by omega) (by omega)
 have c0:Calls Tryz.prog 121 #[v,.int .i64 0] w fun e w' => e = .returned (.int .u64 ((l.getD 0 0:Nat):Int))∧w' = w:=limbAt_any w h 0 (by omega) (by omega)
 generalize l.getD 1 0 = x at *
 generalize l.getD 0 0 = y at *
 have C1:Hid (Calls Tryz.prog 121 #[v,.int .i64 1] w fun e w' => e = .returned (.int .u64 (x:Int))∧w' = w):=c1
 have C0:Hid (Calls Tryz.prog 121 #[v,.int .i64 0] w fun e w' => e = .returned (.int .u64 (y:Int))∧w' = w):=c0
 have hor:=or_low x y h1 h0
 clear c1 c0 hv h
 go_enter Tryz.func100,Tryz.ntmps100
 go_wp2_with fail
 refine C1.out.mono ?_
 rintro e w1 ⟨rfl,rfl⟩
 go_wp2_with fail
 refine C0.out.mono ?_
 rintro e w1 ⟨rfl,rfl⟩
 go_wp2
 go_ret
 exact ⟨Kept.refl _,by simp⟩
end Go.Proofs.YtgofinhnlcbafaaGreat

namespace Go.Proofs.YtgofinhnlcbafaaGreat
open Go.RowKit
def i64r (z:Int):Int:=if -9223372036854775808≤z∧z≤9223372036854775807 then z else 0
def i64e (z:Int):Int:=if -9223372036854775808≤z∧z≤9223372036854775807 then 0 else 4
set_option maxHeartbeats 1000000 in
theorem int64_in (m:Bool) (ao:Option Addr) (n cap:Nat) (l:List Nat) (w:World) (h:Sl w (.slice ao n cap) l) (hr:R m l) (hl:l.length≤2) (hz:-9223372036854775808≤M.int m l∧M.int m l≤9223372036854775807) :
  Calls Tryz.prog 64 #[.agg #[.bool m,.slice ao n cap]] w fun e w' => e = .returned (.tuple #[.int .i64 (M.int m l),.int .i64 0])∧Kept w w':=by
 have hn:=h.len
 subst hn
 have HS:Hid (Sl w (.slice ao l.length cap) l∧R m l):=⟨h,hr⟩
 obtain ⟨x,hx⟩:∃ x,x = M.val l:=⟨_,rfl⟩
 have HX:Hid (x = M.val l):=hx
 have hm:M.int m l = if m then -(x:Int) else (x:Int):=by rw [hx]; rfl
 rw [hm] at hz ⊢
 clear h hr hm hx
 cases m
 ·
  simp only [Bool.false_eq_true,if_false] at hz ⊢
  have hw:IntKind.i64.wrap (x:Int) = (x:Int):=by rw [IntKind.wrap_i64]; omega
  go_enter Tryz.func64,Tryz.ntmps64
  go_wp2_with fail
  refine (check_yes false _ l _ (HS.out.1.kept ((Kept.refl w).alloc _)) HS.out.2).mono ?_
  rintro e w1 ⟨rfl,hk⟩
  obtain ⟨hA0,hA1⟩:=box_kept hk
  have HK:Hid (Kept w w1):=((Kept.refl w).alloc _).trans hk
  clear hk
  go_wp2_with fail
  refine (toWord_any _ (HS.out.1.kept HK.out) hl).mono ?_
  rintro e w2 ⟨hk2,rfl⟩
  rw [← HX.out]
  replace hA0:=cell_kept hk2 hA0
  replace hA1:=cell_kept hk2 hA1
  replace HK:Hid (Kept w w2):=HK.out.trans hk2
  clear hk2
  go_wp2
  exact bodyPost_ret (v:=.tuple #[.int .i64 (x:Int),.int .i64 0]) (by simp [results,Tryz.results64,go_sem]) rfl ⟨rfl,HK.out⟩
 ·
  simp only [if_true] at hz ⊢
  have hw:IntKind.i64.wrap (IntKind.u64.wrap (-(x:Int))) = -(x:Int):=by rw [IntKind.wrap_i64,IntKind.wrap_u64]; omega
  go_enter Tryz.func64,Tryz.ntmps64
  go_wp2_with fail
  refine (check_yes true _ l _ (HS.out.1.kept ((Kept.refl w).alloc _)) HS.out.2).mono ?_
  rintro e w1 ⟨rfl,hk⟩
  obtain ⟨hA0,hA1⟩:=box_kept hk
  have HK:Hid (Kept w w1):=((Kept.refl w).alloc _).trans hk
  clear hk
  go_wp2_with fail
  refine (toWord_any _ (HS.out.1.kept HK.out) hl).mono ?_
  rintro e w2 ⟨hk2,rfl⟩
  rw [← HX.out]
  replace hA0:=cell_kept hk2 hA0
  replace hA1:=cell_kept hk2 hA1
  replace HK:Hid (Kept w w2):=HK.out.trans hk2
  clear hk2
  go_wp2
  exact bodyPost_ret (v:=.tuple #[.int .i64 (-(x:Int)),.int .i64 0]) (by simp [results,Tryz.results64,go_sem]) rfl ⟨rfl,HK.out⟩
set_option maxHeartbeats 1000000 in
theorem int64_out (m:Bool) (ao:Option Addr) (n cap:Nat) (l:List Nat) (w:World) (h:Sl w (.slice ao n cap) l) (hr:R m l) (hz:¬ (-9223372036854775808≤M.int m l∧M.int m l≤9223372036854775807)) :
  Calls Tryz.prog 64 #[.agg #[.bool m,.slice ao n cap]] w fun e w' => e = .returned (.tuple #[.int .i64 0,.int .i64 4])∧Kept w w':=by
 have hn:=h.len
 subst hn
 have HS:Hid (Sl w (.slice ao l.length cap) l∧R m l):=⟨h,hr⟩
 obtain ⟨x,hx⟩:∃ x,x = M.val l:=⟨_,rfl⟩
 have HX:Hid (x = M.val l):=hx
 have hm:M.int m l = if m then -(x:Int) else (x:Int):=by rw [hx]; rfl
 have h72:=hr.1
 rw [hm] at hz
 clear h hr hm hx
 by_cases hl:l.length≤2
 ·
  cases m
  ·
   simp only [Bool.false_eq_true,if_false] at hz
   have hz1:(9223372036854775807:Int) < (x:Int):=by omega
   go_enter Tryz.func64,Tryz.ntmps64
   go_wp2_with fail
   refine (check_yes false _ l _ (HS.out.1.kept ((Kept.refl w).alloc _)) HS.out.2).mono ?_
   rintro e w1 ⟨rfl,hk⟩
   obtain ⟨hA0,hA1⟩:=box_kept hk
   have HK:Hid (Kept w w1):=((Kept.refl w).alloc _).trans hk
   clear hk
   go_wp2_with fail
   refine (toWord_any _ (HS.out.1.kept HK.out) hl).mono ?_
   rintro e w2 ⟨hk2,rfl⟩
   rw [← HX.out]
   replace hA0:=cell_kept hk2 hA0
   replace hA1:=cell_kept hk2 hA1
   replace HK:Hid (Kept w w2):=HK.out.trans hk2
   clear hk2
   go_wp2
   exact bodyPost_ret (v:=.tuple #[.int .i64 0,.int .i64 4]) (by simp [results,Tryz.results64,go_sem]) rfl ⟨rfl,HK.out⟩
  ·
   simp only [if_true] at hz
   have hz1:(9223372036854775808:Int) < (x:Int):=by omega
   go_enter Tryz.func64,Tryz.ntmps64
   go_wp2_with fail
   refine (check_yes true _ l _ (HS.out.1.kept ((Kept.refl w).alloc _)) HS.out.2).mono ?_
   rintro e w1 ⟨rfl,hk⟩
   obtain ⟨hA0,hA1⟩:=box_kept hk
   have HK:Hid (Kept w w1):=((Kept.refl w).alloc _).trans hk
   clear hk
   go_wp2_with fail
   refine (toWord_any _ (HS.out.1.kept HK.out) hl).mono ?_
   rintro e w2 ⟨hk2,rfl⟩
   rw [← HX.out]
   replace hA0:=cell_kept hk2 hA0
   replace hA1:=cell_kept hk2 hA1
   replace HK:Hid (Kept w w2):=HK.out.trans hk2
   clear hk2
   go_wp2
   exact bodyPost_ret (v:=.tuple #[.int .i64 0,.int .i64 4]) (by simp [results,Tryz.results64,go_sem]) rfl ⟨rfl,HK.out⟩
 ·
  clear hz HX
  go_enter Tryz.func64,Tryz.ntmps64
  go_wp2_with fail
  refine (check_yes m _ l _ (HS.out.1.kept ((Kept.refl w).alloc _)) HS.out.2).mono ?_
  rintro e w1 ⟨rfl,hk⟩
  obtain ⟨hA0,hA1⟩:=box_kept hk
  have HK:Hid (Kept w w1):=((Kept.refl w).alloc _).trans hk
  clear hk
  go_wp2
  exact bodyPost_ret (v:=.tuple #[.int .i64 0,.int .i64 4]) (by simp [results,Tryz.results64,go_sem]) rfl ⟨rfl,HK.out⟩
theorem int64_yes (m:Bool) (ao:Option Addr) (n cap:Nat) (l:List Nat) (w:World) (h:Sl w (.slice ao n cap) l) (hr:R m l) :
  Calls Tryz.prog 64 #[.agg #[.bool m,.slice ao n cap]] w fun e w' => e = .returned (.tuple #[.int .i64 (i64r (M.int m l)),.int .i64 (i64e (M.int m l))])∧Kept w w':=by
 by_cases hz:-9223372036854775808≤M.int m l∧M.int m l≤9223372036854775807
 ·
  have hl:l.length≤2:=by
   by_cases h2:l.length≤2
   ·
    exact h2
   ·
    have h3:=M.val_ge hr.tr (fun e => by rw [e] at h2; simp at h2)
    have h4:4294967296 ^ 2≤4294967296 ^ (l.length - 1):=Nat.pow_le_pow_right (by decide) (by omega)
    have h5:(4294967296:Nat) ^ 2 = 18446744073709551616:=by decide
    have h6:(M.int m l).natAbs = M.val l:=M.natAbs_int m l
    omega
  unfold i64r i64e
  rw [if_pos hz,if_pos hz]
  exact int64_in m ao n cap l w h hr hl hz
 ·
  unfold i64r i64e
  rw [if_neg hz,if_neg hz]
  exact int64_out m ao n cap l w h hr hz
end Go.Proofs.YtgofinhnlcbafaaGreat
