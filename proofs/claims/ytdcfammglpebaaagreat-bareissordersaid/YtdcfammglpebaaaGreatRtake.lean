/- Take of package shuntref01: limbs as digits in base 65536. -/
import Derived.Test.YtdcfammglpebaaaGreatGak
import Derived.Deep.AppendLies
namespace Go.Proofs.YtdcfammglpebaaaGreat
open Go.RowKit
namespace D
end D
end Go.Proofs.YtdcfammglpebaaaGreat
