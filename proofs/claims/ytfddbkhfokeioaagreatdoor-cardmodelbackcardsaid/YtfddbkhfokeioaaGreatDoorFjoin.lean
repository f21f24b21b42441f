/- A reckoning's join: whole times den, plus part. -/
import Derived.Test.YtfddbkhfokeioaaGreatDoorFadd
import Derived.Test.YtfddbkhfokeioaaGreatDoorGam
namespace Go.Proofs.YtfddbkhfokeioaaGreatDoor
open Go.RowKit
namespace F
end F
end Go.Proofs.YtfddbkhfokeioaaGreatDoor
