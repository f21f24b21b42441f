/- What a wave is, told by its kind, its values and its steps: when it is right. -/
import Derived.Test.YthfbfbfambbkaaaGreatDoorGam
import Derived.Test.YthfbfbfambbkaaaGreatDoorQm
namespace Go.Proofs.YthfbfbfambbkaaaGreatDoor
open Go.RowKit
namespace V
open Q (okN)
def riseB:List Int->Bool
 | a :: b :: l => decide (a < b) && riseB (b :: l)
 | _ => true
def fitsB (k:Int) (n m:Nat):Bool :=
 (k == 1 && n == 1 && m == 0) || (k == 2 && n == 2 && m == 5) || (k == 3 && (decide (1<=n) && decide (n<=16)) && m == n) || (k == 4 && (decide (1<=n) && decide (n<=16)) && m == 0)
def hangB (k:Int) (ss:List Int):Bool :=
 if k = 2 then decide (1<=ss.getD 4 0) && decide (ss.getD 1 0 + ss.getD 2 0 + ss.getD 3 0<=ss.getD 4 0) else if k = 3 then riseB ss else true
def okW (k:Int) (vs:List (Int × Int)) (ss:List Int):Bool :=
 fitsB k vs.length ss.length && (vs.all (fun p => okN p.1 p.2) && ss.all okS) && hangB k ss
def fa:List Int->Int->Nat
 | [],_ => 0
 | s :: l,t => if t < s then 0 else fa l t + 1
end V
end Go.Proofs.YthfbfbfambbkaaaGreatDoor
