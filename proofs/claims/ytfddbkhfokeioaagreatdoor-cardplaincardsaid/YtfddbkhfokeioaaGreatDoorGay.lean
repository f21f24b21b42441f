/- Fractions told by any numerator and denominator: near of them; numbers in units of ten to the power -18. Calls of rat told by any numerator and denominator. -/
import Derived.Test.YtfddbkhfokeioaaGreatDoorFrdm
import Derived.Test.YtfddbkhfokeioaaGreatDoorGax
import Derived.Test.YtfddbkhfokeioaaGreatDoorGaw
namespace Go.Proofs.YtfddbkhfokeioaaGreatDoor
open Go.RowKit
namespace V
open Q (okN okN_bd Scl)
def U (m x:Int):Int:=m * ((10 ^ (x + 18).toNat:Nat):Int)
theorem scl_u {m x N:Int} {D:Nat} (hx:-18≤x) (h:Scl m x N D):N * ((10 ^ 18:Nat):Int) = U m x * D:=by
 obtain ⟨_,_,e⟩:=h
 unfold U
 by_cases h0:0≤x
 ·
  have e1:(-x).toNat = 0:=by omega
  have e2:(x + 18).toNat = x.toNat + 18:=by omega
  rw [e1] at e
  rw [e2,Nat.pow_add,Int.natCast_mul,← Int.mul_assoc,Int.mul_right_comm (m * _),← e]
  simp
 ·
  have e1:x.toNat = 0:=by omega
  have e2:10 ^ 18 = 10 ^ (-x).toNat * 10 ^ (x + 18).toNat:=by rw [← Nat.pow_add]; congr 1; omega
  rw [e1] at e
  rw [e2,Int.natCast_mul,← Int.mul_assoc,e]
  simp only [Nat.pow_zero,Int.natCast_one,Int.mul_one]
  rw [Int.mul_right_comm]
end V
end Go.Proofs.YtfddbkhfokeioaaGreatDoor

namespace Go.Proofs.YtfddbkhfokeioaaGreatDoor
open Go.RowKit
namespace V
open Q (okN okN_bd Scl RQ hid')
def RT (B:Nat) (w:World) (v:Value) (A:Int) (S:Nat):Prop:=∃ N D,RQ B w v N D∧N * (S:Int) = A * D
theorem RT.kept {B:Nat} {w w':World} {v:Value} {A:Int} {S:Nat} (h:RT B w v A S) (k:Kept w w'):RT B w' v A S:=by
 obtain ⟨N,D,h1,h2⟩:=h
 exact ⟨N,D,h1.kept k,h2⟩
theorem RT.mono {B B':Nat} {w:World} {v:Value} {A:Int} {S:Nat} (h:RT B w v A S) (k:B'≤B):RT B' w v A S:=by
 obtain ⟨N,D,h1,h2⟩:=h
 exact ⟨N,D,h1.mono k,h2⟩
theorem RT.shape {B:Nat} {w:World} {v:Value} {A:Int} {S:Nat} (h:RT B w v A S):∃ (s:Bool) (ao ap:Option Addr) (k c k' c':Nat),v = .agg #[.bool s,.slice ao k c,.bool false,.slice ap k' c']:=by
 obtain ⟨N,D,⟨s,ao,ap,k,c,k',c',l,l',rfl,_⟩,_⟩:=h
 exact ⟨_,_,_,_,_,_,_,rfl⟩
theorem hW:(10:Nat) ^ 200 < M.W72:=by unfold M.W72; decide
end V
end Go.Proofs.YtfddbkhfokeioaaGreatDoor
