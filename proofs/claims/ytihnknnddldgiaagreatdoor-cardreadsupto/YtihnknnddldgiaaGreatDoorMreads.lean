/- NumReads' walk. -/
import Derived.Test.YtihnknnddldgiaaGreatDoorNrefn
import Derived.Test.YtihnknnddldgiaaGreatDoorNrefp
namespace Go.Proofs.YtihnknnddldgiaaGreatDoor
open Go.RowKit
namespace Q
theorem rparse_any (s:ByteArray) (w:World) (hs:s.size<=maxLen) :
  Calls Tryz.prog 23 #[.string s] w fun e w' => Kept w w'/\e = numE (parseOf s.data.toList):=by
 rcases Nat.lt_or_ge 32 s.size with h | h
 ·
  exact rparse_long s w hs h
 ·
  rcases Nat.eq_zero_or_pos s.size with h0 | h0
  ·
   exact rparse_nil s w h0
  ·
   by_cases hn:hd 45 s.data.toList = true
   ·
    exact rparse_neg s w h hn
   ·
    exact rparse_pos s w h h0 (by simpa using hn)
end Q
end Go.Proofs.YtihnknnddldgiaaGreatDoor
