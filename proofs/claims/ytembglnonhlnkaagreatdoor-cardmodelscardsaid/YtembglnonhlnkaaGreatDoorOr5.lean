/- shuntref03.Same, shuntref05.Same. -/
import Derived.Test.YtembglnonhlnkaaGreatDoorGba
namespace Go.Proofs.YtembglnonhlnkaaGreatDoor
open Go.RowKit
namespace V
open Q (hid' Row3 Row2 okN)
set_option maxRecDepth 100000 in
set_option maxHeartbeats 4000000 in
theorem same3_any (a b:Option Addr) (n c c':Nat) (vs:List (Int × Int)) (w:World) (h1:NSl w (.slice a n c) vs) (h2:NSl w (.slice b n c') vs) (hn:n<=9223372036854775807) :
  Calls Tryz.prog 46 #[.slice a n c,.slice b n c'] w fun e w' => Kept w w'/\e = .returned (.bool true):=by
 have HS:=hid' (And.intro h1 h2)
 clear h1 h2
 go_enter Tryz.func46,Tryz.ntmps46
 go_wp2_with fail
 go_loopw [5] (fun vi wr => ∃ j:Nat,j<=n/\vi = .int .i64 (j:Int)/\Hid (Kept w wr)) (fun vi _ => n - (intOf vi).toNat)
 case atStart => exact ⟨0,Nat.zero_le _,rfl,Kept.refl w⟩
 case round =>
  obtain ⟨j,hj,rfl,I⟩:=hrel
  by_cases hlt:j < n
  ·
   have hltz:(j:Int) < (n:Int):=by omega
   obtain ⟨ao1,cap1,hv1,hx1⟩:=HS.out.1.kept I.out
   simp only [Value.slice.injEq] at hv1
   obtain ⟨rfl,hl1,rfl⟩:=hv1
   obtain ⟨b1,o1,rfl,hb1,hc1⟩:=hx1 (by omega)
   obtain ⟨ao2,cap2,hv2,hx2⟩:=HS.out.2.kept I.out
   simp only [Value.slice.injEq] at hv2
   obtain ⟨rfl,hl2,rfl⟩:=hv2
   obtain ⟨b2,o2,rfl,hb2,hc2⟩:=hx2 (by omega)
   obtain ⟨u0,u1⟩:=hc1 j (by omega)
   obtain ⟨v0,v1⟩:=hc2 j (by omega)
   clear hx1 hc1 hb1 hl1 hx2 hc2 hb2 hl2
   generalize vs.getD j (0,0) = y at u0 u1 v0 v1
   obtain ⟨y0,y1⟩:=y
   dsimp only at u0 u1 v0 v1
   go_wp2_with fail
   go_quiet (fail)
   go_wp2_with fail
   go_roundw
   case rel => exact ⟨j + 1,by omega,by go_num,I.out.drewN _⟩
   case measure => show n - ((j:Int) + 1).toNat < n - (j:Int).toNat; omega
  ·
   obtain rfl:j = n:=by omega
   have hltz:¬ (j:Int) < (j:Int):=by omega
   go_wp2_with fail
   go_ret
   exact ⟨I.out,rfl⟩
set_option maxRecDepth 100000 in
set_option maxHeartbeats 4000000 in
theorem same5_any (s:ByteArray) (k:Int) (a1 a2 b1 b2:Option Addr) (n c m c' d d':Nat) (gs vs:List (Int × Int)) (w:World) (h1:NSl w (.slice a1 n c) gs) (h2:NSl w (.slice a2 m c') vs) (h3:NSl w (.slice b1 n d) gs) (h4:NSl w (.slice b2 m d') vs) (hn:n<=4611686018427387903) (hm:m<=4611686018427387903) :
  Calls Tryz.prog 20 #[.agg #[.string s,.int .u8 k,.slice a1 n c,.slice a2 m c'],.agg #[.string s,.int .u8 k,.slice b1 n d,.slice b2 m d']] w fun e w' => Kept w w'/\e = .returned (.bool true):=by
 have HS:=hid' (And.intro h1 (And.intro h2 (And.intro h3 h4)))
 clear h1 h2 h3 h4
 go_enter Tryz.func20,Tryz.ntmps20
 go_upto_region 1 with fail
 have hA:=(Row4.alloc 43 w (.string s) (.int .u8 k) (.slice a1 n c) (.slice a2 m c')).kept ((Kept.refl (w.alloc (.cells #[.string s,.int .u8 k,.slice a1 n c,.slice a2 m c'] 43))).alloc (.cells #[.string s,.int .u8 k,.slice b1 n d,.slice b2 m d'] 43))
 have hB:=Row4.alloc 43 (w.alloc (.cells #[.string s,.int .u8 k,.slice a1 n c,.slice a2 m c'] 43)) (.string s) (.int .u8 k) (.slice b1 n d) (.slice b2 m d')
 have hK:=(((Kept.refl w).alloc (.cells #[.string s,.int .u8 k,.slice a1 n c,.slice a2 m c'] 43)).alloc (.cells #[.string s,.int .u8 k,.slice b1 n d,.slice b2 m d'] 43))
 simp only [World.size_alloc] at hB
 generalize (w.alloc (.cells #[.string s,.int .u8 k,.slice a1 n c,.slice a2 m c'] 43)).alloc (.cells #[.string s,.int .u8 k,.slice b1 n d,.slice b2 m d'] 43) = W at hA hB hK ⊢
 obtain ⟨q,hqq⟩:∃ q,q = w.heap.size + 1:=⟨_,rfl⟩
 rw [<- hqq] at hB ⊢
 obtain ⟨p,hqp⟩:∃ q,q = w.heap.size:=⟨_,rfl⟩
 rw [<- hqp] at hA ⊢
 clear hqp hqq
 have HK:=hid' (And.intro hK (And.intro hA hB))
 have u0:=hA.c0
 have u1:=hA.c1
 have u2:=hA.c2
 have v0:=hB.c0
 have v1:=hB.c1
 have v2:=hB.c2
 clear hK hA hB
 go_wp2_with fail
 refine (same3_any _ _ n _ _ gs _ (HS.out.1.kept HK.out.1) (HS.out.2.2.1.kept HK.out.1) (by omega)).mono ?_
 rintro e w1 ⟨hk1,rfl⟩
 have HK:=hid' (And.intro (HK.out.1.trans hk1) (And.intro (HK.out.2.1.kept hk1) (HK.out.2.2.kept hk1)))
 clear hk1 u0 u1 u2 v0 v1 v2
 have u3:=HK.out.2.1.c3
 have v3:=HK.out.2.2.c3
 go_wp2_with fail
 refine (same3_any _ _ m _ _ vs _ (HS.out.2.1.kept HK.out.1) (HS.out.2.2.2.kept HK.out.1) (by omega)).mono ?_
 rintro e w2 ⟨hk2,rfl⟩
 have HK:=hid' (HK.out.1.trans hk2)
 clear hk2 u3 v3
 go_wp2_with fail
 go_ret
 exact ⟨HK.out,rfl⟩
end V
end Go.Proofs.YtembglnonhlnkaaGreatDoor
