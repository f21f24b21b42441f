/- A reckoning's addModulo: a + b modulo d, b led to the other side of 0 where both are on one. -/
import Derived.Test.YtembglnonhlnkaaGreatDoorGam
import Derived.Deep.RegionHeld3
namespace Go.Proofs.YtembglnonhlnkaaGreatDoor
open Go.RowKit
namespace F
def RecP (kb B:Nat) (x:Bool) (w:World) (e:Ending) (fits:Prop) (v:Int):Prop :=
 ∃ x' s ao k cap l,e = .returned (.agg #[.bool s,.slice ao k cap])∧Flag w kb x'∧New B w (.slice ao k cap) l∧M.Right s l∧(x' = false→x = false∧M.int s l = v)∧(x = false→fits→x' = false)
end F
end Go.Proofs.YtembglnonhlnkaaGreatDoor
