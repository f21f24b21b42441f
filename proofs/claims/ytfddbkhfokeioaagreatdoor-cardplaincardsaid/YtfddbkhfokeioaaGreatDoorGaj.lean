/- Take of package shuntref01: limbs as digits in base 65536. Less, Sign, Held of package shuntref01. -/
import Derived.Test.YtfddbkhfokeioaaGreatDoorGah
import Derived.Deep.AppendLies
import Derived.Test.YtfddbkhfokeioaaGreatDoorGae
namespace Go.Proofs.YtfddbkhfokeioaaGreatDoor
open Go.RowKit
namespace D
end D
end Go.Proofs.YtfddbkhfokeioaaGreatDoor

namespace Go.Proofs.YtfddbkhfokeioaaGreatDoor
open Go.RowKit
namespace D
end D
end Go.Proofs.YtfddbkhfokeioaaGreatDoor
