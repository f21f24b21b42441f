/- law03's awake. -/
import Derived.Test.YtembglnonhlnkaaGreatDoorGaw
import Derived.Test.YtembglnonhlnkaaGreatDoorGau
import Derived.Test.YtembglnonhlnkaaGreatDoorNtext
namespace Go.Proofs.YtembglnonhlnkaaGreatDoor
open Go.RowKit
namespace Q
structure Lay (w:World):Prop where
 lett:Lett w
 err:ErrV w
 tab:Tab w
theorem Lay.kept {w w':World} (h:Lay w) (k:Kept w w'):Lay w':=⟨h.lett.kept k,h.err.kept k,h.tab.kept k⟩
end Q
end Go.Proofs.YtembglnonhlnkaaGreatDoor
