/- shuntref02: Grid, Round. -/
import Derived.Test.YtembglnonhlnkaaGreatDoorGat
import Derived.Test.YtembglnonhlnkaaGreatDoorGat
import Derived.Test.YtembglnonhlnkaaGreatDoorGak
namespace Go.Proofs.YtembglnonhlnkaaGreatDoor
open Go.RowKit
namespace F
end F
end Go.Proofs.YtembglnonhlnkaaGreatDoor
