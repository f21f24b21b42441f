/- A reckoning's mulModulo: a times b modulo d. -/
import Derived.Test.YtembglnonhlnkaaGreatDoorGam
namespace Go.Proofs.YtembglnonhlnkaaGreatDoor
open Go.RowKit
namespace F
def RecV (kb B:Nat) (x:Bool) (w:World) (e:Ending) (z v:Int):Prop :=
 ∃ x' s ao k cap l,e = .returned (.agg #[.bool s,.slice ao k cap])∧Flag w kb x'∧New B w (.slice ao k cap) l∧M.Right s l∧(x' = false→x = false∧M.int s l = v)∧(x = false→z.natAbs < M.W72→x' = false)
end F
end Go.Proofs.YtembglnonhlnkaaGreatDoor
