/- Text of 2^32. -/
import Derived.Test.YthfbfbfambbkaaaGreatDoorGai
import Derived.Test.YthfbfbfambbkaaaGreatDoorGab
import Derived.Laws.BytesArg
namespace Go.Proofs.YthfbfbfambbkaaaGreatDoor
open Go.RowKit
theorem owns_shape {w:World} {B n:Nat} {v:Value} {xs:List Value} (h:w.ownsRow B 5 1 v n xs) (hn:0 < n):∃ g cap,v = .slice (some ⟨g,0,none⟩) n cap:=by
 obtain ⟨_,⟨_,h0⟩ | ⟨g,cap,cur,rfl,_⟩⟩:=h
 ·
  omega
 ·
  exact ⟨g,cap,rfl⟩
end Go.Proofs.YthfbfbfambbkaaaGreatDoor
