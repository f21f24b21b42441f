/- Whole numbers and fractions that came in as arguments: what their reading gives the walks. -/
import Derived.Test.YtembglnonhlnkaaGreatDoorGac
import Derived.Test.YtembglnonhlnkaaGreatDoorRows
import Derived.ProofKit
import Derived.OpenShut
import Derived.Stop.Joined
import Derived.Lib.SmallJoins
namespace Go.Proofs.YtembglnonhlnkaaGreatDoor
open Go.ChangeShapes Go.WideShapes Go.ChangeAt Go.RowKit Go.Joins
theorem own:ownKnob Tryz.prog.godebug = none:=by kernel_rfl
theorem laidOut:laidOutB Tryz.prog = true:=by kernel_rfl
end Go.Proofs.YtembglnonhlnkaaGreatDoor
