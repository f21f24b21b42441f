/- Take of package shuntref01: limbs as digits in base 65536. Less, Sign, Held of package shuntref01. -/
import Derived.Test.YtboliplhgpndpaaGreatDoorGah
import Derived.Deep.AppendLies
import Derived.Test.YtboliplhgpndpaaGreatDoorGad
namespace Go.Proofs.YtboliplhgpndpaaGreatDoor
open Go.RowKit
namespace D
end D
end Go.Proofs.YtboliplhgpndpaaGreatDoor

namespace Go.Proofs.YtboliplhgpndpaaGreatDoor
open Go.RowKit
namespace D
end D
end Go.Proofs.YtboliplhgpndpaaGreatDoor
