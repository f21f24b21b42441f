/- A reckoning's join: whole times den, plus part. -/
import Derived.Test.YtembglnonhlnkaaGreatDoorFadd
import Derived.Test.YtembglnonhlnkaaGreatDoorGam
namespace Go.Proofs.YtembglnonhlnkaaGreatDoor
open Go.RowKit
namespace F
end F
end Go.Proofs.YtembglnonhlnkaaGreatDoor
