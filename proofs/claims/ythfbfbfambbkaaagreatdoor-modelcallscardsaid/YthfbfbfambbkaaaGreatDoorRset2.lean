/- Two boxes stored one behind the other. -/
import Derived.Test.YthfbfbfambbkaaaGreatDoorGag
import Derived.Deep.DeepCutAuto
namespace Go.Proofs.YthfbfbfambbkaaaGreatDoor
open Go.RowKit
namespace D
theorem set2_far {W:World} {p c o:Nat} {v x y:Value} (h:W.cell? ⟨c,o,none⟩ = some v) (hne:¬ p = c):((W.setCell ⟨p,0,none⟩ x).setCell ⟨p,1,none⟩ y).cell? ⟨c,o,none⟩ = some v:=by
 rw [World.cell?_setCell_far _ _ _ _ hne,World.cell?_setCell_far _ _ _ _ hne]; exact h
theorem set2_at {W:World} {p:Nat} {u v x y:Value} (h0:W.cell? ⟨p,0,none⟩ = some u) (h1:W.cell? ⟨p,1,none⟩ = some v):((W.setCell ⟨p,0,none⟩ x).setCell ⟨p,1,none⟩ y).cell? ⟨p,0,none⟩ = some x/\((W.setCell ⟨p,0,none⟩ x).setCell ⟨p,1,none⟩ y).cell? ⟨p,1,none⟩ = some y :=
 ⟨by rw [World.cell?_setCell_other _ _ _ _ (by simp)]; exact World.cell?_setCell_same _ _ _ h0,World.cell?_setCell_same _ _ _ (by rw [World.cell?_setCell_other _ _ _ _ (by simp)]; exact h1)⟩
theorem NIs.box2 {w:World} {sg:Bool} {v:Value} {z:Int} {b:Nat} {q:Bool} {ao:Option Addr} {n cap:Nat} (h:NIs w sg v z) (h0:w.cell? ⟨b,0,none⟩ = some (.bool q)) (h1:w.cell? ⟨b,1,none⟩ = some (.slice ao n cap)) (x y:Value):NIs ((w.setCell ⟨b,0,none⟩ x).setCell ⟨b,1,none⟩ y) sg v z:=by
 obtain ⟨l,h2,h3⟩:=h
 exact ⟨l,h2.box h0 h1 x y,h3⟩
end D
end Go.Proofs.YthfbfbfambbkaaaGreatDoor
