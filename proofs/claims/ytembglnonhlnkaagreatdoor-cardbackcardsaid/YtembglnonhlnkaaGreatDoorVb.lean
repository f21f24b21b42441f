/- What a wave is, told by its kind, its values and its steps: when it is right. -/
import Derived.Test.YtembglnonhlnkaaGreatDoorGan
import Derived.Test.YtembglnonhlnkaaGreatDoorQm
namespace Go.Proofs.YtembglnonhlnkaaGreatDoor
open Go.RowKit
namespace V
open Q (okN)
def riseB:List Int→Bool
 | a :: b :: l => decide (a < b) && riseB (b :: l)
 | _ => true
theorem riseB_iff (l:List Int):riseB l = true ↔ ∀ i,i + 1 < l.length→l.getD i 0 < l.getD (i + 1) 0:=by
 induction l with
 | nil => simp [riseB]
 | cons a l ih =>
  cases l with
  | nil => simp [riseB]
  | cons b l =>
   unfold riseB
   rw [Bool.and_eq_true,ih,decide_eq_true_iff]
   constructor
   ·
    rintro ⟨h1,h2⟩ i hi
    cases i with
    | zero => exact h1
    | succ i => exact h2 i (by simpa using hi)
   ·
    intro h
    exact ⟨h 0 (by simp),fun i hi => h (i + 1) (by simpa using hi)⟩
def fitsB (k:Int) (n m:Nat):Bool :=
 (k == 1 && n == 1 && m == 0) || (k == 2 && n == 2 && m == 5) || (k == 3 && (decide (1≤n) && decide (n≤16)) && m == n) || (k == 4 && (decide (1≤n) && decide (n≤16)) && m == 0)
def hangB (k:Int) (ss:List Int):Bool :=
 if k = 2 then decide (1≤ss.getD 4 0) && decide (ss.getD 1 0 + ss.getD 2 0 + ss.getD 3 0≤ss.getD 4 0) else if k = 3 then riseB ss else true
def okW (k:Int) (vs:List (Int × Int)) (ss:List Int):Bool :=
 fitsB k vs.length ss.length && (vs.all (fun p => okN p.1 p.2) && ss.all okS) && hangB k ss
def fa:List Int→Int→Nat
 | [],_ => 0
 | s :: l,t => if t < s then 0 else fa l t + 1
end V
end Go.Proofs.YtembglnonhlnkaaGreatDoor
