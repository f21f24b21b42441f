/- New variables of the reference's numbers. -/
import Derived.Test.YtcigcfcciggclaaGreatRset2
import Derived.Test.YtcigcfcciggclaaGreatGal
namespace Go.Proofs.YtcigcfcciggclaaGreat
open Go.RowKit
namespace F

/-- A new variable of the reference's, still zero. -/
def ZN (w : World) (p : Nat) : Prop := w.rowIs p 66 2 (fun i => if i = 0 then .bool false else .slice none 0 0)
theorem ZN.alloc (w : World) : ZN (w.alloc (.cells #[.bool false, .slice none 0 0] 66)) w.heap.size :=
  World.rowIs_alloc w #[.bool false, .slice none 0 0] 66 _ (fun i hi => by
    match i, hi with
    | 0, _ => rfl
    | 1, _ => rfl)
theorem ZN.lt {w : World} {p : Nat} (h : ZN w p) : p < w.heap.size := World.rowIs.lt h
theorem ZN.c0 {w : World} {p : Nat} (h : ZN w p) : w.cell? ⟨p, 0, none⟩ = some (.bool false) := World.rowIs.cell h (i := 0) (by omega)
theorem ZN.c1 {w : World} {p : Nat} (h : ZN w p) : w.cell? ⟨p, 1, none⟩ = some (.slice none 0 0) := World.rowIs.cell h (i := 1) (by omega)
theorem ZN.fz {w : World} {p : Nat} (h : ZN w p) (o : Nat) : w.frozen? ⟨p, o, none⟩ = false := World.rowIs.frozen h o
theorem ZN.kept {p : Nat} {w w' : World} (h : ZN w p) (k : Kept w w') : ZN w' p := World.rowIs.of_block h (k.block p h.lt)
theorem ZN.far {w : World} {p q : Nat} (h : ZN w p) (hne : ¬ p = q) (x y : Value) : ZN ((w.setCell ⟨q, 0, none⟩ x).setCell ⟨q, 1, none⟩ y) p :=
  World.rowIs.setOther (World.rowIs.setOther h hne x) hne y

end F
end Go.Proofs.YtcigcfcciggclaaGreat
