/- A reckoning's join: whole times den, plus part. -/
import Derived.Test.YtboliplhgpndpaaGreatDoorFadd
import Derived.Test.YtboliplhgpndpaaGreatDoorGam
namespace Go.Proofs.YtboliplhgpndpaaGreatDoor
open Go.RowKit
namespace F
end F
end Go.Proofs.YtboliplhgpndpaaGreatDoor
