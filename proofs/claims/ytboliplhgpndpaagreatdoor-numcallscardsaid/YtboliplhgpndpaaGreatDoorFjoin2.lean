/- A reckoning's join where whole and part are on different sides of 0. -/
import Derived.Test.YtboliplhgpndpaaGreatDoorFjoin
import Derived.Test.YtboliplhgpndpaaGreatDoorGan
namespace Go.Proofs.YtboliplhgpndpaaGreatDoor
open Go.RowKit
namespace F
end F
end Go.Proofs.YtboliplhgpndpaaGreatDoor
