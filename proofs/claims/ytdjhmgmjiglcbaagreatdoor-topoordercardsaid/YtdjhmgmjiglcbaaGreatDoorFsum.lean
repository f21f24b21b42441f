/- rat.sum: the sum of two right fractions, or that it is too wide. -/
import Derived.Test.YtdjhmgmjiglcbaaGreatDoorFover
import Derived.Test.YtdjhmgmjiglcbaaGreatDoorGan
import Derived.Test.YtdjhmgmjiglcbaaGreatDoorGao
import Derived.Test.YtdjhmgmjiglcbaaGreatDoorGab
import Derived.Test.YtdjhmgmjiglcbaaGreatDoorGao
import Derived.Test.YtdjhmgmjiglcbaaGreatDoorGan
namespace Go.Proofs.YtdjhmgmjiglcbaaGreatDoor
open Go.RowKit
namespace F
def SumIs (B:Nat)(w:World)(e:Ending)(N:Int)(D:Nat):Prop :=
 (∃v,e=.returned (.tuple #[v,.int .i64 0])/\RatIs B w v N D)∨(e=.returned (.tuple #[.agg #[.bool false,.slice none 0 0,.bool false,.slice none 0 0],.int .i64 13])/\¬(N.natAbs<M.W72/\D<M.W72))
theorem set4 {B p:Nat}{w:World}{v:Value}{l:List Nat}(h:New B w v l)(hp:p<B)(x0 x1 x2 x3:Value):New B ((((w.setCell ⟨p,0,none⟩ x0).setCell ⟨p,1,none⟩ x1).setCell ⟨p,2,none⟩ x2).setCell ⟨p,3,none⟩ x3) v l :=
 (((h.other hp _).other hp _).other hp _).other hp _
end F
end Go.Proofs.YtdjhmgmjiglcbaaGreatDoor
