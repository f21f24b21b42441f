/- The row's closed facts, one by one (all in one pass the kernel's memory). -/
import Derived.Test.YtdjhmgmjiglcbaaGreatDoorGbk
namespace Go.Proofs.YtdjhmgmjiglcbaaGreatDoor
open Go.ChangeShapes Go.WideShapes Go.ChangeAt Go.RowKit Go.Joins
namespace Q
theorem jf1:(Rows.topoOrderRow.inPlace == Tryz.prog.inPlace 4)=true:=by kernel_rfl
theorem jf2:(Rows.topoOrderRow.unfollowed == Tryz.prog.unfollowed 4)=true:=by kernel_rfl
theorem jf3:(Rows.topoOrderRow.recurses == Tryz.prog.recurses 4)=true:=by kernel_rfl
theorem jf4:(Rows.topoOrderRow.named == Tryz.prog.varsNamed 4)=true:=by kernel_rfl
theorem closedF:joinedFacts Tryz.prog 4 Tryz.f4 Rows.topoOrderSpec Rows.topoOrderRow=true:=by
 unfold joinedFacts
 rw[jf1,jf2,jf3,jf4]
 kernel_rfl
end Q
end Go.Proofs.YtdjhmgmjiglcbaaGreatDoor
