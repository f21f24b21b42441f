/- A reckoning's join and addModulo, whichever sides of 0. -/
import Derived.Test.YtembglnonhlnkaaGreatDoorFjoin2
import Derived.Test.YtembglnonhlnkaaGreatDoorGab
namespace Go.Proofs.YtembglnonhlnkaaGreatDoor
open Go.RowKit
namespace F
def JoinQ (kb B:Nat) (x:Bool) (w:World) (e:Ending) (A P D:Int):Prop :=
 ∃ x' s ao k cap l,e = .returned (.agg #[.bool s,.slice ao k cap])∧Flag w kb x'∧New B w (.slice ao k cap) l∧M.Right s l∧(x' = false→x = false∧(0 < D→M.int s l = A * D + P)) ∧
  (x = false→0 < D→D.natAbs < M.W72→(A * D + P).natAbs < M.W72→A.natAbs < M.W72→((A < 0∧0 < P) ∨ (0 < A∧P < 0)→P.natAbs < D.natAbs)→(¬ ((A < 0∧0 < P) ∨ (0 < A∧P < 0))→(A * D).natAbs < M.W72)→x' = false)
def AddQ (kb B:Nat) (x:Bool) (w:World) (e:Ending) (a b:Int) (g:Nat):Prop :=
 ∃ x' s ao k cap l,e = .returned (.agg #[.bool s,.slice ao k cap])∧Flag w kb x'∧New B w (.slice ao k cap) l∧M.Right s l∧(x' = false→x = false∧(g:Int) ∣ M.int s l - (a + b))∧(x = false→a.natAbs < g→b.natAbs < g→g < M.W72→x' = false)
end F
end Go.Proofs.YtembglnonhlnkaaGreatDoor
