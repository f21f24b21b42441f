/- CardModelBack's walk. -/
import Derived.Test.YtembglnonhlnkaaGreatDoorGbe
import Derived.Test.YtembglnonhlnkaaGreatDoorGbe
import Derived.Test.YtembglnonhlnkaaGreatDoorGbf
import Derived.Test.YtembglnonhlnkaaGreatDoorOr5
namespace Go.Proofs.YtembglnonhlnkaaGreatDoor
open Go.RowKit
namespace V
open Q (hid' parseOf Lett ErrV Tab okN textOf)
open X (bs OwnS RS strs bs_list bs_size)
theorem nsl_nil (w:World):NSl w (.slice none 0 0) []:=⟨none,0,rfl,fun h => absurd h (by decide)⟩
end V
end Go.Proofs.YtembglnonhlnkaaGreatDoor
