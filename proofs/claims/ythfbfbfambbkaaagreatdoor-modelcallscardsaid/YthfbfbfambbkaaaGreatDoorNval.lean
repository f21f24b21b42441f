/- num.Valid, and the document's. -/
import Derived.Test.YthfbfbfambbkaaaGreatDoorQm
import Derived.Test.YthfbfbfambbkaaaGreatDoorGab
namespace Go.Proofs.YthfbfbfambbkaaaGreatDoor
open Go.RowKit
namespace Q
set_option maxRecDepth 100000 in
set_option maxHeartbeats 4000000 in
theorem Valid_any (m x:Int) (w:World):Calls Tryz.prog 54 #[.agg #[.int .i64 m,.int .i64 x]] w fun e w' => Kept w w'/\e = .returned (.bool (okN m x)):=by
 go_enter Tryz.func54,Tryz.ntmps54
 by_cases hm:m = 0
 ·
  subst hm
  go_wp2
  all_goals
   go_ret
   exact ⟨(Kept.refl w).alloc _,congrArg (fun b => Ending.returned (Value.bool b)) (by by_cases h:x = 0 <;> simp [okN,h])⟩
 ·
  have hb:(m == 0) = false:=by simpa using hm
  go_wp2
  all_goals
   go_ret
   refine ⟨(Kept.refl w).alloc _,congrArg (fun b => Ending.returned (Value.bool b)) ?_⟩
   simp_all [okN]
   try omega
set_option maxRecDepth 100000 in
set_option maxHeartbeats 4000000 in
theorem RValid_any (m x:Int) (w:World):Calls Tryz.prog 40 #[.agg #[.int .i64 m,.int .i64 x]] w fun e w' => Kept w w'/\e = .returned (.bool (okN m x)):=by
 go_enter Tryz.func40,Tryz.ntmps40
 by_cases hm:m = 0
 ·
  subst hm
  go_wp2
  all_goals
   go_ret
   exact ⟨(Kept.refl w).alloc _,congrArg (fun b => Ending.returned (Value.bool b)) (by by_cases h:x = 0 <;> simp [okN,h])⟩
 ·
  have hb:(m == 0) = false:=by simpa using hm
  go_wp2
  all_goals
   go_ret
   refine ⟨(Kept.refl w).alloc _,congrArg (fun b => Ending.returned (Value.bool b)) ?_⟩
   simp_all [okN]
   try omega
end Q
end Go.Proofs.YthfbfbfambbkaaaGreatDoor
