/- Nothing old has turned: Kept, and its laws. -/
import Derived.Test.YthfbfbfambbkaaaGreatDoorProg
import Derived.WalkKit
import Derived.WalkSpells
import Derived.WalkLawsBesides
import Derived.Deep.OwnRows
import Derived.Deep.QuietTactic
import Derived.BigQuiet
import Derived.Outline
import Derived.KernelRfl
namespace Go.Proofs.YthfbfbfambbkaaaGreatDoor
open Go.RowKit
def Kept (w w':World):Prop:=Below w.heap.size w w'
theorem Kept.refl (w:World):Kept w w:=Below.refl _ _
theorem Kept.trans {a b c:World} (h:Kept a b) (k:Kept b c):Kept a c:=Below.trans h (Below.mono k h.size)
theorem Kept.drew {a b:World} (h:Kept a b):Kept a b.drew:=Below.drew h
theorem Kept.drewN {a b:World} (h:Kept a b) (n:Nat):Kept a (b.drewN n):=⟨h.os,h.tape,h.output,h.size,h.block⟩
theorem Kept.alloc {a b:World} (h:Kept a b) (o:Obj):Kept a (b.alloc o):=Below.alloc h h.size o
theorem Kept.setCell {a b:World} (h:Kept a b) {p:Addr} (hp:a.heap.size<=p.block) (u:Value):Kept a (b.setCell p u):=Below.setCell h hp u
end Go.Proofs.YthfbfbfambbkaaaGreatDoor
