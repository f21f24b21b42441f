/- whole of package shuntlaw04. -/
import Derived.Test.YtgofinhnlcbafaaGreatGay
import Derived.Test.YtgofinhnlcbafaaGreatGar
import Derived.Lib.QuietBelow
import Derived.Deep.QuietTactic
import Derived.BigQuiet
namespace Go.Proofs.YtgofinhnlcbafaaGreat
open Go.RowKit
open Go.Sort (grow)
namespace V
open Q (hid' Row3 Row2 okN)
set_option maxRecDepth 100000 in
set_option maxHeartbeats 4000000 in
theorem whole_any (k:Int) (a1 a2:Option Addr) (n c m c' g1 cap1 g2 cap2 B:Nat) (vs:List (Int × Int)) (ss:List Int) (f1 f2:Nat→Value) (w:World) (h1:NSl w (.slice a1 n c) vs) (h2:ISl w (.slice a2 m c') ss) (hL:LentR B w g1 cap1 g2 cap2 n m vs ss f1 f2) (hn:(n + 1) * 16≤140737488355328) (hm:(m + 1) * 8≤140737488355328) :
  Calls Tryz.prog 12 #[.agg #[.int .i64 k,.slice (some ⟨g1,0,none⟩) n cap1,.slice (some ⟨g2,0,none⟩) m cap2],.agg #[.int .i64 k,.slice a1 n c,.slice a2 m c']] w fun e w' => Kept w w'∧e = .returned (.bool true):=by
 have HS:=hid' (And.intro h1 (And.intro h2 hL))
 have c1:=hL.c1
 have c2:=hL.c2
 clear h1 h2 hL
 have hn':n≤9223372036854775807:=by omega
 have hm':m≤9223372036854775807:=by omega
 have i1:(n:Int) + 1≤9223372036854775807:=by omega
 have i2:(m:Int) + 1≤9223372036854775807:=by omega
 have i3:-9223372036854775808≤(n:Int) + 1:=by omega
 have i4:-9223372036854775808≤(m:Int) + 1:=by omega
 have i5:n < n + 1:=by omega
 have i6:m < m + 1:=by omega
 have i7:(n:Int) < (n:Int) + 1:=by omega
 have i8:(m:Int) < (m:Int) + 1:=by omega
 have i9:((n:Int) + 1).toNat = n + 1:=by omega
 have i10:((m:Int) + 1).toNat = m + 1:=by omega
 have i11:(0:Int)≤(n:Int) + 1:=by omega
 have i12:(0:Int)≤(m:Int) + 1:=by omega
 have i13:(n:Int) + 1≤(cap1:Int):=by omega
 have i14:(m:Int) + 1≤(cap2:Int):=by omega
 have x1:IntKind.i64.wrap ((n:Int) + 1) = (n:Int) + 1:=by unfold IntKind.wrap; simp [IntKind.signed,IntKind.bits]; omega
 have x2:IntKind.i64.wrap ((m:Int) + 1) = (m:Int) + 1:=by unfold IntKind.wrap; simp [IntKind.signed,IntKind.bits]; omega
 go_enter Tryz.func12,Tryz.ntmps12
 go_upto_region 1 with fail
 have hK:=((Kept.refl w).alloc (.cells #[.int .i64 k,.slice (some ⟨g1,0,none⟩) n cap1,.slice (some ⟨g2,0,none⟩) m cap2] 25)).alloc (.cells #[.int .i64 k,.slice a1 n c,.slice a2 m c'] 25)
 have hR:=(Row3.alloc 25 w (.int .i64 k) (.slice (some ⟨g1,0,none⟩) n cap1) (.slice (some ⟨g2,0,none⟩) m cap2)).kept ((Kept.refl _).alloc (.cells #[.int .i64 k,.slice a1 n c,.slice a2 m c'] 25))
 have hV:=Row3.alloc 25 (w.alloc (.cells #[.int .i64 k,.slice (some ⟨g1,0,none⟩) n cap1,.slice (some ⟨g2,0,none⟩) m cap2] 25)) (.int .i64 k) (.slice a1 n c) (.slice a2 m c')
 rw [World.size_alloc] at hV
 generalize (w.alloc (.cells #[.int .i64 k,.slice (some ⟨g1,0,none⟩) n cap1,.slice (some ⟨g2,0,none⟩) m cap2] 25)).alloc (.cells #[.int .i64 k,.slice a1 n c,.slice a2 m c'] 25) = W0 at hK hR hV ⊢
 obtain ⟨q,hq⟩:∃ p,p = w.heap.size + 1:=⟨_,rfl⟩
 rw [← hq] at hV ⊢
 obtain ⟨p,hp⟩:∃ p,p = w.heap.size:=⟨_,rfl⟩
 rw [← hp] at hR ⊢
 have HP:=hid' (And.intro hR (And.intro hV hK))
 clear hp hq hK hR hV
 have KR:∀ d os,Kept W0 (grow (redrawn W0 d) os):=fun d os => below_regrown W0 d os
 have r0:∀ d os,(grow (redrawn W0 d) os).cell? ⟨p,0,none⟩ = some (.int .i64 k):=fun d os => (HP.out.1.kept (KR d os)).c0
 have r1:∀ d os,(grow (redrawn W0 d) os).cell? ⟨p,1,none⟩ = some (.slice (some ⟨g1,0,none⟩) n cap1):=fun d os => (HP.out.1.kept (KR d os)).c1
 have r2:∀ d os,(grow (redrawn W0 d) os).cell? ⟨p,2,none⟩ = some (.slice (some ⟨g2,0,none⟩) m cap2):=fun d os => (HP.out.1.kept (KR d os)).c2
 have s0:∀ d os,(grow (redrawn W0 d) os).cell? ⟨q,0,none⟩ = some (.int .i64 k):=fun d os => (HP.out.2.1.kept (KR d os)).c0
 have s1:∀ d os,(grow (redrawn W0 d) os).cell? ⟨q,1,none⟩ = some (.slice a1 n c):=fun d os => (HP.out.2.1.kept (KR d os)).c1
 have s2:∀ d os,(grow (redrawn W0 d) os).cell? ⟨q,2,none⟩ = some (.slice a2 m c'):=fun d os => (HP.out.2.1.kept (KR d os)).c2
 have m1:∀ d os,(grow (redrawn W0 d) os).cell? ⟨g1,n * 2,none⟩ = some (.int .i64 77):=fun d os => ((HS.out.2.2.kept (HP.out.2.2.trans (KR d os))).r1.cell (i:=n * 2) (by omega)).trans (by rw [HS.out.2.2.m1.1])
 have m2:∀ d os,(grow (redrawn W0 d) os).cell? ⟨g2,m,none⟩ = some (.int .i64 (-77)):=fun d os => ((HS.out.2.2.kept (HP.out.2.2.trans (KR d os))).r2.cell (i:=m) (by omega)).trans (by rw [HS.out.2.2.m2])
 have cS:∀ d os,Calls Tryz.prog 29 #[.agg #[.int .i64 k,.slice (some ⟨g1,0,none⟩) n cap1,.slice (some ⟨g2,0,none⟩) m cap2],.agg #[.int .i64 k,.slice a1 n c,.slice a2 m c']] (grow (redrawn W0 d) os) fun e w'' => e = .returned (.bool true)∧∃ p:Regrown,w'' = grow (redrawn W0 p.d) p.os:=fun d os =>
  Calls.regrown_of ((same4_any k (some ⟨g1,0,none⟩) (some ⟨g2,0,none⟩) a1 a2 n cap1 m cap2 c c' vs ss _ (HS.out.2.2.nsl.kept (HP.out.2.2.trans (KR d os))) (HS.out.2.2.isl.kept (HP.out.2.2.trans (KR d os))) (HS.out.1.kept (HP.out.2.2.trans (KR d os))) (HS.out.2.1.kept (HP.out.2.2.trans (KR d os))) hn' hm').mono fun e w' h => ⟨h.2,h.1⟩)
 have HKR:=hid' KR
 clear KR
 refine wp_region_quiet_below (by kernel_rfl) (by kernel_rfl) ?_
 repeat (quiet_step (exact cS _ _))
 refine wpQuiet_nil ?_
 intro _ hw'
 obtain ⟨⟨dq,osq⟩,hw''⟩:=hw'
 subst hw''
 go_wp2_with fail
 go_ret
 exact ⟨HP.out.2.2.trans (HKR.out dq osq),rfl⟩
end V
end Go.Proofs.YtgofinhnlcbafaaGreat
