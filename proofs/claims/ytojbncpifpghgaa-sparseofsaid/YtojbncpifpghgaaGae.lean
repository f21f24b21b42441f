/- signedSum: a sum of whole numbers with signs. Add, Sub, of right whole numbers. Mul, of right whole numbers. Cmp, of right whole numbers. -/
import Derived.Test.YtojbncpifpghgaaGac
import Derived.Deep.RegionHeld3
namespace Go.Proofs.Ytojbncpifpghgaa
open Go.RowKit
def Fin (B:Nat) (w:World) (s:Bool) (v:Value) (c:Int) (z:Int):Prop :=
 (c = 0∧∃ l,New B w v l∧M.Right s l∧M.int s l = z) ∨ (c = 13∧s = false∧v = .slice none 0 0∧M.W72≤z.natAbs)
def AnsIs (B:Nat) (w:World) (e:Ending) (z:Int):Prop :=
 ∃ (s:Bool) (ao:Option Addr) (n cap:Nat) (c:Int),e = .returned (.tuple #[.agg #[.bool s,.slice ao n cap],.int .i64 c])∧Fin B w s (.slice ao n cap) c z
theorem box_kept {w w1:World} {c0 c1:Value} {t:TypeId} (h:Kept (w.alloc (.cells #[c0,c1] t)) w1):w1.cell? ⟨w.heap.size,0,none⟩ = some c0∧w1.cell? ⟨w.heap.size,1,none⟩ = some c1:=by
 constructor <;> (rw [h.cells _ _ (by simp)]; simp)
theorem Fin.other {B:Nat} {w:World} {s:Bool} {v:Value} {c z:Int} (h:Fin B w s v c z) {p:Addr} (hp:p.block < B) (u:Value):Fin B (w.setCell p u) s v c z:=by
 rcases h with ⟨h1,l,h2,h3⟩ | h
 ·
  exact .inl ⟨h1,l,h2.other hp u,h3⟩
 ·
  exact .inr h
theorem Fin.mono {B B':Nat} {w:World} {s:Bool} {v:Value} {c z:Int} (h:Fin B w s v c z) (hB:B'≤B):Fin B' w s v c z:=by
 rcases h with ⟨h1,l,h2,h3⟩ | h
 ·
  exact .inl ⟨h1,l,h2.mono hB,h3⟩
 ·
  exact .inr h
theorem Fin.kept {B:Nat} {w w':World} {s:Bool} {v:Value} {c z:Int} (h:Fin B w s v c z) (k:Kept w w'):Fin B w' s v c z:=by
 rcases h with ⟨h1,l,h2,h3⟩ | h
 ·
  exact .inl ⟨h1,l,h2.kept k,h3⟩
 ·
  exact .inr h
end Go.Proofs.Ytojbncpifpghgaa

namespace Go.Proofs.Ytojbncpifpghgaa
open Go.RowKit
theorem box_kept2 {w w1:World} {c0 c1 d0 d1:Value} {t u:TypeId} (h:Kept ((w.alloc (.cells #[c0,c1] t)).alloc (.cells #[d0,d1] u)) w1) :
  w1.cell? ⟨w.heap.size,0,none⟩ = some c0∧w1.cell? ⟨w.heap.size,1,none⟩ = some c1∧w1.cell? ⟨w.heap.size + 1,0,none⟩ = some d0∧w1.cell? ⟨w.heap.size + 1,1,none⟩ = some d1:=by
 refine ⟨?_,?_,?_,?_⟩ <;> (rw [h.cells _ _ (by simp <;> omega)]; simp)
end Go.Proofs.Ytojbncpifpghgaa

namespace Go.Proofs.Ytojbncpifpghgaa
open Go.RowKit
end Go.Proofs.Ytojbncpifpghgaa

namespace Go.Proofs.Ytojbncpifpghgaa
open Go.RowKit
def isgn (x y:Int):Int:=if x < y then -1 else if x = y then 0 else 1
theorem int_neg_lt {a:List Nat} (h:R true a):M.int true a < 0:=by
 have h0:a ≠ []:=fun e => by have:=h.2.1 (by simp [e]); simp at this
 have:=M.val_pos h.tr h0
 simp [M.int]; omega
end Go.Proofs.Ytojbncpifpghgaa
