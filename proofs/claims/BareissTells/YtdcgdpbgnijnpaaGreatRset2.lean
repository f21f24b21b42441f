/- Two boxes stored one behind the other. -/
import Derived.Test.YtdcgdpbgnijnpaaGreatGak
import Derived.Deep.DeepCutAuto
namespace Go.Proofs.YtdcgdpbgnijnpaaGreat
open Go.RowKit
namespace D
end D
end Go.Proofs.YtdcgdpbgnijnpaaGreat
