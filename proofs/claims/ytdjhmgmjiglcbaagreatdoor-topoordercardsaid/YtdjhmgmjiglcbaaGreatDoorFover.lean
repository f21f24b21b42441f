/- A reckoning's mulOver: a times b over d, cut toward 0, and what is left. -/
import Derived.Test.YtdjhmgmjiglcbaaGreatDoorGao
namespace Go.Proofs.YtdjhmgmjiglcbaaGreatDoor
open Go.RowKit
namespace F
theorem hid {p:Prop}(h:p):Hid p:=h
def OverQ (kb B:Nat)(x:Bool)(w:World)(e:Ending)(za zb zd:Int):Prop :=
 ∃x' s ao k c l t ap k' c' l',e=.returned (.tuple #[.agg #[.bool s,.slice ao k c],.agg #[.bool t,.slice ap k' c']])/\Flag w kb x'/\New B w (.slice ao k c) l/\New B w (.slice ap k' c') l'/\M.Right s l/\M.Right t l' /\
  ((Int.tmod za zd*zb).natAbs<M.W72->M.int t l'=Int.tmod (Int.tmod za zd*zb) zd/\(x'=false->x=false/\M.int s l=Int.tdiv za zd*zb+Int.tdiv (Int.tmod za zd*zb) zd)/\(x=false->(Int.tdiv za zd*zb).natAbs<M.W72->(Int.tdiv za zd*zb+Int.tdiv (Int.tmod za zd*zb) zd).natAbs<M.W72->x'=false))
end F
end Go.Proofs.YtdjhmgmjiglcbaaGreatDoor
