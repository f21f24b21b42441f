/- Two boxes stored one behind the other. -/
import Derived.Test.YtdcfammglpebaaaGreatGak
import Derived.Deep.DeepCutAuto
namespace Go.Proofs.YtdcfammglpebaaaGreat
open Go.RowKit
namespace D
theorem NIs.box2 {w:World} {sg:Bool} {v:Value} {z:Int} {b:Nat} {q:Bool} {ao:Option Addr} {n cap:Nat} (h:NIs w sg v z) (h0:w.cell? ⟨b,0,none⟩ = some (.bool q)) (h1:w.cell? ⟨b,1,none⟩ = some (.slice ao n cap)) (x y:Value):NIs ((w.setCell ⟨b,0,none⟩ x).setCell ⟨b,1,none⟩ y) sg v z:=by
 obtain ⟨l,h2,h3⟩:=h
 exact ⟨l,h2.box h0 h1 x y,h3⟩
end D
end Go.Proofs.YtdcfammglpebaaaGreat
