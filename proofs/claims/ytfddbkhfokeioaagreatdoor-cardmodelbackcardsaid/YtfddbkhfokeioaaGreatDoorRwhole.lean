/- Whole and Int64 of package shuntref01. -/
import Derived.Test.YtfddbkhfokeioaaGreatDoorGai
import Derived.Test.YtfddbkhfokeioaaGreatDoorGak
import Derived.Test.YtfddbkhfokeioaaGreatDoorGaf
import Derived.Deep.DeepCutAuto
namespace Go.Proofs.YtfddbkhfokeioaaGreatDoor
open Go.RowKit
namespace D
end D
end Go.Proofs.YtfddbkhfokeioaaGreatDoor
