/- Take of package shuntref01: limbs as digits in base 65536. Less, Sign, Held of package shuntref01. -/
import Derived.Test.YtembglnonhlnkaaGreatDoorGai
import Derived.Deep.AppendLies
import Derived.Test.YtembglnonhlnkaaGreatDoorGae
namespace Go.Proofs.YtembglnonhlnkaaGreatDoor
open Go.RowKit
namespace D
end D
end Go.Proofs.YtembglnonhlnkaaGreatDoor

namespace Go.Proofs.YtembglnonhlnkaaGreatDoor
open Go.RowKit
namespace D
end D
end Go.Proofs.YtembglnonhlnkaaGreatDoor
