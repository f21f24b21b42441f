/- Lemmas. -/
import Derived.Test.YtdjhmgmjiglcbaaGreatDoorGai
import Derived.Deep.AppendLies
import Derived.Test.YtdjhmgmjiglcbaaGreatDoorGae
namespace Go.Proofs.YtdjhmgmjiglcbaaGreatDoor
open Go.RowKit
namespace D
end D
end Go.Proofs.YtdjhmgmjiglcbaaGreatDoor
