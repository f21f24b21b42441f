/- Take of package shuntref01: limbs as digits in base 65536. Less, Sign, Held of package shuntref01. -/
import Derived.Test.YtcggopolokekkaaGreatDoorGai
import Derived.Deep.AppendLies
import Derived.Test.YtcggopolokekkaaGreatDoorGae
namespace Go.Proofs.YtcggopolokekkaaGreatDoor
open Go.RowKit
namespace D
end D
end Go.Proofs.YtcggopolokekkaaGreatDoor

namespace Go.Proofs.YtcggopolokekkaaGreatDoor
open Go.RowKit
namespace D
end D
end Go.Proofs.YtcggopolokekkaaGreatDoor
