/- A reckoning's join where whole and part are on different sides of 0. -/
import Derived.Test.YtembglnonhlnkaaGreatDoorFjoin
import Derived.Test.YtembglnonhlnkaaGreatDoorGan
namespace Go.Proofs.YtembglnonhlnkaaGreatDoor
open Go.RowKit
namespace F
end F
end Go.Proofs.YtembglnonhlnkaaGreatDoor
