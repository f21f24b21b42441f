/- shuntlaw06.LexReads. -/
import Derived.Test.YtbmmiepjkamaeaaDoorYd
import Derived.Test.YtbmmiepjkamaeaaDoorZl
namespace Go.Proofs.YtbmmiepjkamaeaaDoor
namespace X
theorem lexReads_any (s : ByteArray) (w : World) (hs : s.size ≤ 9223372036854775807) : Calls Tryd.prog 3 #[.string s] w fun e w' => Kept w w' ∧ e = .returned (.bool true) :=
 lexReads_of s w hs (fun w => rlines_any s w hs)
end X
end Go.Proofs.YtbmmiepjkamaeaaDoor
