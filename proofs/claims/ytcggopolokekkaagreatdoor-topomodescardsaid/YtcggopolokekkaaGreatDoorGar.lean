/- rat.onGrid. shuntref02.Same, of the same. cmp.Compare of ints. -/
import Derived.Test.YtcggopolokekkaaGreatDoorGan
namespace Go.Proofs.YtcggopolokekkaaGreatDoor
open Go.RowKit
namespace F
end F
end Go.Proofs.YtcggopolokekkaaGreatDoor

namespace Go.Proofs.YtcggopolokekkaaGreatDoor
open Go.RowKit
namespace F
end F
end Go.Proofs.YtcggopolokekkaaGreatDoor

namespace Go.Proofs.YtcggopolokekkaaGreatDoor
open Go.RowKit
namespace F
set_option maxHeartbeats 1000000 in
theorem nan_r (x:Int) (w:World):Calls Tryz.prog 197 #[.int .i64 x] w fun e w' => e = .returned (.bool false)∧Kept w w':=by
 go_enter Tryz.func197,Tryz.ntmps197
 go_wp2
 go_ret
 exact ⟨rfl,Kept.refl w⟩
set_option maxRecDepth 100000 in
set_option maxHeartbeats 1000000 in
theorem Compare_r (x y:Int) (w:World):Calls Tryz.prog 178 #[.int .i64 x,.int .i64 y] w fun e w' => e = .returned (.int .i64 (isgn x y))∧Kept w w':=by
 obtain ⟨z,HX⟩:∃ z,Hid (z = isgn x y):=⟨_,rfl⟩
 rw [← HX.out]
 rcases Int.lt_trichotomy x y with h | rfl | h
 all_goals
  go_enter Tryz.func178,Tryz.ntmps178
  go_wp2_with fail
  refine (nan_r _ _).mono ?_
  rintro e w1 ⟨rfl,hk1⟩
  have HK1:=hk1
  clear hk1
  go_wp2_with fail
  refine (nan_r _ _).mono ?_
  rintro e w2 ⟨rfl,hk2⟩
  have HK:Hid (Kept w w2):=HK1.trans hk2
  clear hk2 HK1
  go_wp2
  go_ret
  exact ⟨ret_i64 (by rw [HX.out]; unfold isgn; split <;> (try split) <;> omega),HK.out⟩
end F
end Go.Proofs.YtcggopolokekkaaGreatDoor
