/- A reckoning's join where whole and part are on different sides of 0. -/
import Derived.Test.YtembglnonhlnkaaGreatDoorGan
import Derived.Test.YtembglnonhlnkaaGreatDoorGao
namespace Go.Proofs.YtembglnonhlnkaaGreatDoor
open Go.RowKit
namespace F
end F
end Go.Proofs.YtembglnonhlnkaaGreatDoor
