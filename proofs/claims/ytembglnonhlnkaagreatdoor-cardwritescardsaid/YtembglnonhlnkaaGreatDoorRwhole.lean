/- Whole and Int64 of package shuntref01. -/
import Derived.Test.YtembglnonhlnkaaGreatDoorGai
import Derived.Test.YtembglnonhlnkaaGreatDoorGak
import Derived.Test.YtembglnonhlnkaaGreatDoorGaf
import Derived.Deep.DeepCutAuto
namespace Go.Proofs.YtembglnonhlnkaaGreatDoor
open Go.RowKit
namespace D
end D
end Go.Proofs.YtembglnonhlnkaaGreatDoor
