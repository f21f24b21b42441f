/- A reckoning's join where whole and part are on different sides of 0. -/
import Derived.Test.YtfddbkhfokeioaaGreatDoorFjoin
import Derived.Test.YtfddbkhfokeioaaGreatDoorGan
namespace Go.Proofs.YtfddbkhfokeioaaGreatDoor
open Go.RowKit
namespace F
end F
end Go.Proofs.YtfddbkhfokeioaaGreatDoor
