/- Take of package shuntref01: limbs as digits in base 65536. -/
import Derived.Test.YtlfhcbeniimnnabGreatGak
import Derived.Deep.AppendLies
namespace Go.Proofs.YtlfhcbeniimnnabGreat
open Go.RowKit
namespace D
end D
end Go.Proofs.YtlfhcbeniimnnabGreat
