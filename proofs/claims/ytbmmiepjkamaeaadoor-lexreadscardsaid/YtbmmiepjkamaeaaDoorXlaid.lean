/- What the listed variables hold. -/
import Derived.Test.YtbmmiepjkamaeaaDoorKp
import Derived.Test.YtbmmiepjkamaeaaDoorRows
import Derived.Test.YtbmmiepjkamaeaaDoorTie
import Derived.Test.YtbmmiepjkamaeaaDoorCards
import Derived.ProofKit
import Derived.LaidMore
import Derived.OpenShut
import Derived.Stop.Joined
import Derived.Lib.SmallJoins
import Derived.SevenTiedAt
import Derived.ShutString
import Derived.Lay
namespace Go.Proofs.YtbmmiepjkamaeaaDoor
open Go.ChangeShapes Go.WideShapes Go.ChangeAt Go.RowKit Go.Joins
namespace X
theorem own : ownKnob Tryd.prog.godebug = none := by kernel_rfl
def laidL : List (String × DataW Unit) := [("unicode/utf8.acceptRanges", Rows.laid_unicode_utf8_acceptRanges), ("unicode/utf8.first", Rows.laid_unicode_utf8_first)]
theorem met_laid (os : Os) (args : Array Value) : laidMetH Tryd.prog laidL ((World.laidAll Tryd.prog os laidL).forCall (fun _ _ => 0) ⟨#[], args, []⟩).memory := by
 rw [MakeChecks.laidMetH_plain _ _ _ (by kernel_rfl)]
 exact laidMet_laidAll _ (by kernel_rfl) (by kernel_rfl)
end X
end Go.Proofs.YtbmmiepjkamaeaaDoor
