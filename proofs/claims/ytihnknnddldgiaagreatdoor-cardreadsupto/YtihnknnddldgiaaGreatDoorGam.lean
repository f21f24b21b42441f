/- Lemmas. -/
import Derived.Test.YtihnknnddldgiaaGreatDoorGah
import Derived.Deep.AppendSrc
import Derived.Lib.OwnKind
import Derived.Lib.OthersKept
import Derived.Test.YtihnknnddldgiaaGreatDoorGac
import Derived.Laws.BytesArg
namespace Go.Proofs.YtihnknnddldgiaaGreatDoor
open Go.RowKit
def unit (i:Nat):Nat:=100000000 / 10 ^ i
def dg (g k:Nat):List Nat:=(List.range k).map (fun i => 48 + g / unit i % 10)
def bs (l:List Nat):List Value:=l.map (fun x => Value.int .u8 ((x:Nat):Int))
end Go.Proofs.YtihnknnddldgiaaGreatDoor
