/- Lemmas. -/
import Derived.Test.YtdjhmgmjiglcbaaGreatDoorProg
import Derived.WalkKit
import Derived.WalkSpells
import Derived.WalkLawsBesides
import Derived.Deep.OwnRows
import Derived.Deep.QuietTactic
import Derived.BigQuiet
import Derived.Outline
import Derived.KernelRfl
namespace Go.Proofs.YtdjhmgmjiglcbaaGreatDoor
open Go.RowKit
def Kept (w w':World):Prop:=Below w.heap.size w w'
theorem Kept.refl (w:World):Kept w w:=Below.refl _ _
theorem Kept.trans {a b c:World}(h:Kept a b)(k:Kept b c):Kept a c:=Below.trans h (Below.mono k h.size)
theorem Kept.drew {a b:World}(h:Kept a b):Kept a b.drew:=Below.drew h
theorem Kept.drewN {a b:World}(h:Kept a b)(n:Nat):Kept a (b.drewN n):=⟨h.os,h.tape,h.output,h.size,h.block⟩
theorem Kept.alloc {a b:World}(h:Kept a b)(o:Obj):Kept a (b.alloc o):=Below.alloc h h.size o
theorem Kept.setCell {a b:World}(h:Kept a b){p:Addr}(hp:a.heap.size<=p.block)(u:Value):Kept a (b.setCell p u):=Below.setCell h hp u
namespace V
def RowL (t:TypeId)(w:World)(p:Nat)(xs:List Value):Prop:=w.rowIs p t xs.length (fun i=>xs.getD i undef)
theorem RowL.alloc (t:TypeId)(w:World)(xs:List Value):RowL t (w.alloc (.cells xs.toArray t)) w.heap.size xs:=by
 have:=World.rowIs_alloc w xs.toArray t (fun i=>xs.getD i undef) (fun i hi=>by
  have hi':i<xs.length:=by simpa using hi
  simp[hi'])
 simpa[RowL]using this
section
variable {t:TypeId} {w w':World} {p q:Nat} {xs:List Value}
theorem RowL.lt (h:RowL t w p xs):p<w.heap.size:=World.rowIs.lt h
theorem RowL.cell (h:RowL t w p xs)(i:Nat)(u:Value)(hi:xs[i]?=some u:=by rfl):w.cell? ⟨p,i,none⟩=some u:=by
 have hl:=(List.getElem?_eq_some_iff.1 hi).1
 have:=World.rowIs.cell h (i:=i) hl
 rw[this]
 show some (xs.getD i undef)=some u
 rw[List.getD_eq_getElem?_getD,hi]
 rfl
theorem RowL.fz (h:RowL t w p xs)(i:Nat):w.frozen? ⟨p,i,none⟩=false:=World.rowIs.frozen h i
theorem RowL.kept (h:RowL t w p xs)(k:Kept w w'):RowL t w' p xs:=World.rowIs.of_block h (k.block p h.lt)
theorem RowL.block (h:RowL t w p xs)(k:w'.heap[p]?=w.heap[p]?):RowL t w' p xs:=World.rowIs.of_block h k
theorem RowL.set (h:RowL t w p xs)(i:Nat)(v:Value):RowL t (w.setCell ⟨p,i,none⟩ v) p (xs.set i v):=by
 have:=World.rowIs.set h i v
 unfold RowL
 rw[List.length_set]
 refine this.congr (fun j hj=>?_)
 show (if j=i then v else xs.getD j undef)=(xs.set i v).getD j undef
 by_cases e:j=i
 ·subst e
  rw[if_pos rfl,List.getD_eq_getElem?_getD,List.getElem?_set_self hj]
  rfl
 ·rw[if_neg e,List.getD_eq_getElem?_getD,List.getD_eq_getElem?_getD,List.getElem?_set_ne (fun h=>e h.symm)]
theorem RowL.far (h:RowL t w p xs)(hne:p≠q)(i:Nat)(v:Value):RowL t (w.setCell ⟨q,i,none⟩ v) p xs:=World.rowIs.setOther h hne v
end
end V
end Go.Proofs.YtdjhmgmjiglcbaaGreatDoor
