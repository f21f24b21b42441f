/- Take of package shuntref01: limbs as digits in base 65536. -/
import Derived.Test.YtlfhcbeniimnnaaGreatGak
import Derived.Deep.AppendLies
namespace Go.Proofs.YtlfhcbeniimnnaaGreat
open Go.RowKit
namespace D
end D
end Go.Proofs.YtlfhcbeniimnnaaGreat
