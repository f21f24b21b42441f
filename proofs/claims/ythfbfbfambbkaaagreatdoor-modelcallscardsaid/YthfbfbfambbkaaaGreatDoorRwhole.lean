/- Whole and Int64 of package shuntref01. -/
import Derived.Test.YthfbfbfambbkaaaGreatDoorGag
import Derived.Test.YthfbfbfambbkaaaGreatDoorGaj
import Derived.Test.YthfbfbfambbkaaaGreatDoorGae
import Derived.Deep.DeepCutAuto
namespace Go.Proofs.YthfbfbfambbkaaaGreatDoor
open Go.RowKit
namespace D
end D
end Go.Proofs.YthfbfbfambbkaaaGreatDoor
