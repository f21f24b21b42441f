/- card.text; slices.Equal of texts, numbers, whole numbers. -/
import Derived.Test.YtembglnonhlnkaaGreatDoorGay
import Derived.Test.YtembglnonhlnkaaGreatDoorNtext
import Derived.Test.YtembglnonhlnkaaGreatDoorGag
namespace Go.Proofs.YtembglnonhlnkaaGreatDoor
open Go.RowKit
namespace V
open Q (hid' parseOf Lett ErrV Tab okN textOf)
open X (bs OwnS RS strs bs_list bs_size)
set_option maxRecDepth 100000 in
set_option maxHeartbeats 4000000 in
theorem ctext_any (m x:Int) (w:World) (hl:Lett w) (ht:Tab w) :
  Calls Tryz.prog 44 #[.agg #[.int .i64 m,.int .i64 x]] w fun e w' => Kept w w'∧e = .returned (.string (bs (tx (m,x)))):=by
 have hc:=fun V (K:Kept w V) => Q.text_any m x V (hl.kept K) (ht.kept K)
 have HT:=hid' (show ∀ e,Q.TextIs e m x→∃ z,e = .returned (.tuple #[.string (bs (tx (m,x))),.int .i64 z]) by
  rintro e (⟨h1,rfl⟩ | ⟨h1,t,ht,rfl⟩)
  ·
   exact ⟨30,by unfold tx; rw [if_neg (by rw [h1]; decide)]; rfl⟩
  ·
   exact ⟨0,by unfold tx; rw [if_pos h1,← ht]; rfl⟩)
 generalize bs (tx (m,x)) = r at HT ⊢
 clear hl ht
 go_enter Tryz.func44,Tryz.ntmps44
 go_wp2_with fail
 refine (hc _ (by first | exact Kept.refl _ | exact (Kept.refl _).alloc _)).mono ?_
 rintro e w1 ⟨hk,he⟩
 obtain ⟨z,rfl⟩:=HT.out e he
 have HK:=hid' hk
 clear hk hc he
 go_wp2_with fail
 go_ret
 exact ⟨by first | exact HK.out | exact ((Kept.refl _).alloc _).trans HK.out,rfl⟩
theorem rs_len {w:World} {ao:Option Addr} {n c:Nat} {l:List (List UInt8)} (h:RS w (.slice ao n c) l):n = l.length:=by
 obtain ⟨_,_,e,_⟩:=h
 simp at e; exact e.2.1
set_option maxRecDepth 100000 in
set_option maxHeartbeats 4000000 in
theorem eq_strs (a1 a2:Option Addr) (n m c c':Nat) (x y:List (List UInt8)) (w:World) (h1:RS w (.slice a1 n c) x) (h2:RS w (.slice a2 m c') y) (hl:n≤9223372036854775807) :
  Calls Tryz.prog 86 #[.slice a1 n c,.slice a2 m c'] w fun e w' => Kept w w'∧e = .returned (.bool (decide (x = y))):=by
 have hn:n = x.length:=rs_len h1
 have hm:m = y.length:=rs_len h2
 have HS:=hid' (And.intro h1 h2)
 have HN:=hid' (And.intro hn hm)
 by_cases hne:n = m
 ·
  subst hne
  clear h1 h2 hn hm
  go_enter Tryz.func86,Tryz.ntmps86
  go_wp2_with fail
  go_loopw [13] (fun vi wr => ∃ k:Nat,k≤n∧vi = .int .i64 (k:Int)∧Hid (Kept w wr∧∀ j,j < k→x.getD j [] = y.getD j [])) (fun vi _ => n - (intOf vi).toNat)
  case atStart => exact ⟨0,Nat.zero_le _,rfl,Kept.refl _,fun j hj => absurd hj (Nat.not_lt_zero _)⟩
  case round =>
   obtain ⟨k,hk,rfl,H⟩:=hrel
   by_cases hlt:k < n
   ·
    have hi:(k:Int) < (n:Int):=by omega
    obtain ⟨a1',c1',e1,hx1⟩:=HS.out.1.kept H.out.1
    obtain ⟨a2',c2',e2,hx2⟩:=HS.out.2.kept H.out.1
    simp only [Value.slice.injEq] at e1 e2
    obtain ⟨rfl,hn1,rfl⟩:=e1
    obtain ⟨rfl,hn2,rfl⟩:=e2
    obtain ⟨b1,o1,rfl,hb1,hc1⟩:=hx1 (by omega)
    obtain ⟨b2,o2,rfl,hb2,hc2⟩:=hx2 (by omega)
    have q1:=hc1 k (by omega)
    have q2:=hc2 k (by omega)
    clear hx1 hx2 hc1 hc2 hn1 hn2
    obtain ⟨u,hu⟩:∃ u,u = x.getD k []:=⟨_,rfl⟩
    obtain ⟨v,hv⟩:∃ v,v = y.getD k []:=⟨_,rfl⟩
    rw [← hu] at q1
    rw [← hv] at q2
    have HX:=hid' (And.intro hu hv)
    clear hu hv
    have e1:(bs u).toList = u:=by rw [ByteArray.toList_eq,bs_list]
    have e2:(bs v).toList = v:=by rw [ByteArray.toList_eq,bs_list]
    generalize bs u = t1 at q1 e1
    generalize bs v = t2 at q2 e2
    by_cases huv:u = v
    ·
     have HXY:=hid' huv
     have hq:t1.toList = t2.toList:=by rw [e1,e2,huv]
     have hq':(t1.toList == t2.toList) = true:=by rw [hq]; simp
     clear e1 e2 hq huv
     go_wp2_with fail
     go_quiet (fail)
     go_wp2_with fail
     go_roundw
     case rel =>
      refine ⟨k + 1,by omega,by go_num,H.out.1.drewN _,fun j hj => ?_⟩
      by_cases e:j = k
      ·
       subst e; rw [← HX.out.1,← HX.out.2]; exact HXY.out
      ·
       exact H.out.2 j (by omega)
     case measure => show n - ((k:Int) + 1).toNat < n - (k:Int).toNat; omega
    ·
     have HD:=hid' (show decide (x = y) = false from decide_eq_false (fun e => huv (by rw [HX.out.1,HX.out.2,e])))
     have hq:¬ t1.toList = t2.toList:=by rw [e1,e2]; exact huv
     have hq':(t1.toList == t2.toList) = false:=by simpa using hq
     clear e1 e2 hq huv
     go_wp2_with fail
     go_quiet (fail)
     go_wp2_with fail
     go_ret
     exact ⟨H.out.1.drewN _,by rw [HD.out]; rfl⟩
   ·
    have hi:¬ (k:Int) < (n:Int):=by omega
    have HD:=hid' (show decide (x = y) = true from decide_eq_true (X.eq_of_getD [] (by rw [← HN.out.1,← HN.out.2]) (fun j hj => H.out.2 j (by rw [← HN.out.1] at hj; omega))))
    go_wp2_with fail
    go_ret
    exact ⟨H.out.1,by rw [HD.out]; rfl⟩
 ·
  have hz:¬ (n:Int) = (m:Int):=by omega
  have hz':((n:Int) == (m:Int)) = false:=by simpa using hz
  have HD:=hid' (show decide (x = y) = false from decide_eq_false (fun e => hne (by rw [hn,hm,e])))
  clear h1 h2 hn hm
  go_enter Tryz.func86,Tryz.ntmps86
  go_wp2_with fail
  go_ret
  exact ⟨Kept.refl _,by rw [HD.out]; rfl⟩
set_option maxRecDepth 100000 in
set_option maxHeartbeats 4000000 in
theorem eq_nums (a1 a2:Option Addr) (n m c c':Nat) (x y:List (Int × Int)) (w:World) (h1:NSl w (.slice a1 n c) x) (h2:NSl w (.slice a2 m c') y) (hl:n≤9223372036854775807) :
  Calls Tryz.prog 87 #[.slice a1 n c,.slice a2 m c'] w fun e w' => Kept w w'∧e = .returned (.bool (decide (x = y))):=by
 have hn:n = x.length:=NSl.len h1
 have hm:m = y.length:=NSl.len h2
 have HS:=hid' (And.intro h1 h2)
 have HN:=hid' (And.intro hn hm)
 by_cases hne:n = m
 ·
  subst hne
  clear h1 h2 hn hm
  go_enter Tryz.func87,Tryz.ntmps87
  go_wp2_with fail
  go_loopw [13] (fun vi wr => ∃ k:Nat,k≤n∧vi = .int .i64 (k:Int)∧Hid (Kept w wr∧∀ j,j < k→x.getD j (0,0) = y.getD j (0,0))) (fun vi _ => n - (intOf vi).toNat)
  case atStart => exact ⟨0,Nat.zero_le _,rfl,Kept.refl _,fun j hj => absurd hj (Nat.not_lt_zero _)⟩
  case round =>
   obtain ⟨k,hk,rfl,H⟩:=hrel
   by_cases hlt:k < n
   ·
    have hi:(k:Int) < (n:Int):=by omega
    obtain ⟨a1',c1',e1,hx1⟩:=HS.out.1.kept H.out.1
    obtain ⟨a2',c2',e2,hx2⟩:=HS.out.2.kept H.out.1
    simp only [Value.slice.injEq] at e1 e2
    obtain ⟨rfl,hn1,rfl⟩:=e1
    obtain ⟨rfl,hn2,rfl⟩:=e2
    obtain ⟨b1,o1,rfl,hb1,hc1⟩:=hx1 (by omega)
    obtain ⟨b2,o2,rfl,hb2,hc2⟩:=hx2 (by omega)
    have q1:=hc1 k (by omega)
    have q2:=hc2 k (by omega)
    clear hx1 hx2 hc1 hc2 hn1 hn2
    obtain ⟨u,hu⟩:∃ u,u = x.getD k (0,0):=⟨_,rfl⟩
    obtain ⟨v,hv⟩:∃ v,v = y.getD k (0,0):=⟨_,rfl⟩
    rw [← hu] at q1
    rw [← hv] at q2
    have HX:=hid' (And.intro hu hv)
    clear hu hv
    obtain ⟨q1,q1'⟩:=q1
    obtain ⟨q2,q2'⟩:=q2
    obtain ⟨u0,u1⟩:=u
    obtain ⟨v0,v1⟩:=v
    simp only at q1 q1' q2 q2'
    by_cases huv:(u0,u1) = (v0,v1)
    ·
     have HXY:=hid' huv
     simp only [Prod.mk.injEq] at huv
     obtain ⟨rfl,rfl⟩:=huv
     go_wp2_with fail
     go_quiet (fail)
     go_wp2_with fail
     go_roundw
     case rel =>
      refine ⟨k + 1,by omega,by go_num,H.out.1.drewN _,fun j hj => ?_⟩
      by_cases e:j = k
      ·
       subst e; rw [← HX.out.1,← HX.out.2]
      ·
       exact H.out.2 j (by omega)
     case measure => show n - ((k:Int) + 1).toNat < n - (k:Int).toNat; omega
    ·
     have HD:=hid' (show decide (x = y) = false from decide_eq_false (fun e => huv (by rw [HX.out.1,HX.out.2,e])))
     by_cases h0:u0 = v0
     ·
      subst h0
      have h1:¬ u1 = v1:=fun e => huv (by rw [e])
      have h1':(u1 == v1) = false:=by simpa using h1
      clear huv
      go_wp2_with fail
      go_quiet (fail)
      go_wp2_with fail
      go_ret
      exact ⟨H.out.1.drewN _,by rw [HD.out]; rfl⟩
     ·
      have h0':(u0 == v0) = false:=by simpa using h0
      clear huv
      go_wp2_with fail
      go_quiet (fail)
      go_wp2_with fail
      go_ret
      exact ⟨H.out.1.drewN _,by rw [HD.out]; rfl⟩
   ·
    have hi:¬ (k:Int) < (n:Int):=by omega
    have HD:=hid' (show decide (x = y) = true from decide_eq_true (X.eq_of_getD (0,0) (by rw [← HN.out.1,← HN.out.2]) (fun j hj => H.out.2 j (by rw [← HN.out.1] at hj; omega))))
    go_wp2_with fail
    go_ret
    exact ⟨H.out.1,by rw [HD.out]; rfl⟩
 ·
  have hz:¬ (n:Int) = (m:Int):=by omega
  have hz':((n:Int) == (m:Int)) = false:=by simpa using hz
  have HD:=hid' (show decide (x = y) = false from decide_eq_false (fun e => hne (by rw [hn,hm,e])))
  clear h1 h2 hn hm
  go_enter Tryz.func87,Tryz.ntmps87
  go_wp2_with fail
  go_ret
  exact ⟨Kept.refl _,by rw [HD.out]; rfl⟩
set_option maxRecDepth 100000 in
set_option maxHeartbeats 4000000 in
theorem eq_ints (a1 a2:Option Addr) (n m c c':Nat) (x y:List Int) (w:World) (h1:ISl w (.slice a1 n c) x) (h2:ISl w (.slice a2 m c') y) (hl:n≤9223372036854775807) :
  Calls Tryz.prog 88 #[.slice a1 n c,.slice a2 m c'] w fun e w' => Kept w w'∧e = .returned (.bool (decide (x = y))):=by
 have hn:n = x.length:=ISl.len h1
 have hm:m = y.length:=ISl.len h2
 have HS:=hid' (And.intro h1 h2)
 have HN:=hid' (And.intro hn hm)
 by_cases hne:n = m
 ·
  subst hne
  clear h1 h2 hn hm
  go_enter Tryz.func88,Tryz.ntmps88
  go_wp2_with fail
  go_loopw [13] (fun vi wr => ∃ k:Nat,k≤n∧vi = .int .i64 (k:Int)∧Hid (Kept w wr∧∀ j,j < k→x.getD j 0 = y.getD j 0)) (fun vi _ => n - (intOf vi).toNat)
  case atStart => exact ⟨0,Nat.zero_le _,rfl,Kept.refl _,fun j hj => absurd hj (Nat.not_lt_zero _)⟩
  case round =>
   obtain ⟨k,hk,rfl,H⟩:=hrel
   by_cases hlt:k < n
   ·
    have hi:(k:Int) < (n:Int):=by omega
    obtain ⟨a1',c1',e1,hx1⟩:=HS.out.1.kept H.out.1
    obtain ⟨a2',c2',e2,hx2⟩:=HS.out.2.kept H.out.1
    simp only [Value.slice.injEq] at e1 e2
    obtain ⟨rfl,hn1,rfl⟩:=e1
    obtain ⟨rfl,hn2,rfl⟩:=e2
    obtain ⟨b1,o1,rfl,hb1,hc1⟩:=hx1 (by omega)
    obtain ⟨b2,o2,rfl,hb2,hc2⟩:=hx2 (by omega)
    have q1:=hc1 k (by omega)
    have q2:=hc2 k (by omega)
    clear hx1 hx2 hc1 hc2 hn1 hn2
    obtain ⟨u,hu⟩:∃ u,u = x.getD k 0:=⟨_,rfl⟩
    obtain ⟨v,hv⟩:∃ v,v = y.getD k 0:=⟨_,rfl⟩
    rw [← hu] at q1
    rw [← hv] at q2
    have HX:=hid' (And.intro hu hv)
    clear hu hv
    by_cases huv:u = v
    ·
     have HXY:=hid' huv
     subst huv
     go_wp2_with fail
     go_quiet (fail)
     go_wp2_with fail
     go_roundw
     case rel =>
      refine ⟨k + 1,by omega,by go_num,H.out.1.drewN _,fun j hj => ?_⟩
      by_cases e:j = k
      ·
       subst e; rw [← HX.out.1,← HX.out.2]
      ·
       exact H.out.2 j (by omega)
     case measure => show n - ((k:Int) + 1).toNat < n - (k:Int).toNat; omega
    ·
     have HD:=hid' (show decide (x = y) = false from decide_eq_false (fun e => huv (by rw [HX.out.1,HX.out.2,e])))
     have h0':(u == v) = false:=by simpa using huv
     go_wp2_with fail
     go_quiet (fail)
     go_wp2_with fail
     go_ret
     exact ⟨H.out.1.drewN _,by rw [HD.out]; rfl⟩
   ·
    have hi:¬ (k:Int) < (n:Int):=by omega
    have HD:=hid' (show decide (x = y) = true from decide_eq_true (X.eq_of_getD 0 (by rw [← HN.out.1,← HN.out.2]) (fun j hj => H.out.2 j (by rw [← HN.out.1] at hj; omega))))
    go_wp2_with fail
    go_ret
    exact ⟨H.out.1,by rw [HD.out]; rfl⟩
 ·
  have hz:¬ (n:Int) = (m:Int):=by omega
  have hz':((n:Int) == (m:Int)) = false:=by simpa using hz
  have HD:=hid' (show decide (x = y) = false from decide_eq_false (fun e => hne (by rw [hn,hm,e])))
  clear h1 h2 hn hm
  go_enter Tryz.func88,Tryz.ntmps88
  go_wp2_with fail
  go_ret
  exact ⟨Kept.refl _,by rw [HD.out]; rfl⟩
end V
end Go.Proofs.YtembglnonhlnkaaGreatDoor
