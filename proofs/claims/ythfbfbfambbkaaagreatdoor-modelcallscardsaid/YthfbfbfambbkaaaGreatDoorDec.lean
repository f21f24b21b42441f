/- Decimal texts, in groups of nine digits. -/
import Derived.Test.YthfbfbfambbkaaaGreatDoorTawk
import Derived.Test.YthfbfbfambbkaaaGreatDoorDecm
namespace Go.Proofs.YthfbfbfambbkaaaGreatDoor
open Go.RowKit
def grp (g:Nat):List UInt8:=(dg g 9).map UInt8.ofNat
theorem grp_eq (g:Nat):grp g = [UInt8.ofNat (48 + g / 100000000 % 10),UInt8.ofNat (48 + g / 10000000 % 10),UInt8.ofNat (48 + g / 1000000 % 10),UInt8.ofNat (48 + g / 100000 % 10),UInt8.ofNat (48 + g / 10000 % 10),UInt8.ofNat (48 + g / 1000 % 10),UInt8.ofNat (48 + g / 100 % 10),UInt8.ofNat (48 + g / 10 % 10),UInt8.ofNat (48 + g / 1 % 10)]:=rfl
theorem grp_dig (g:Nat):Dig (grp g):=by
 rw [grp_eq]
 intro c hc
 simp only [List.mem_cons,List.not_mem_nil,or_false] at hc
 rcases hc with rfl | rfl | rfl | rfl | rfl | rfl | rfl | rfl | rfl <;> rw [ofNat_digit (Nat.mod_lt _ (by decide))] <;> omega
theorem grp_len (g:Nat):(grp g).length = 9:=rfl
theorem grp_dv (g:Nat) (h:g < 1000000000):dv (grp g) = g:=by
 rw [grp_eq]
 show ((((((((0 * 10 + _) * 10 + _) * 10 + _) * 10 + _) * 10 + _) * 10 + _) * 10 + _) * 10 + _) * 10 + _ = g
 simp only [ofNat_digit (Nat.mod_lt _ (by decide:0 < 10))]
 omega
theorem bs_grp (g:Nat):bs (dg g 9) = Lib.byteCells (grp g):=by
 unfold bs Lib.byteCells grp
 rw [List.map_map]
 apply List.map_congr_left
 intro x hx
 have:x < 256:=by
  unfold dg at hx
  rw [List.mem_map] at hx
  obtain ⟨i,_,rfl⟩:=hx
  omega
 show Value.int .u8 (x:Int) = Value.int .u8 ((UInt8.ofNat x).toNat:Int)
 rw [UInt8.toNat_ofNat',Nat.mod_eq_of_lt this]
theorem byteCells_append (a b:List UInt8):Lib.byteCells (a ++ b) = Lib.byteCells a ++ Lib.byteCells b:=by simp [Lib.byteCells]
end Go.Proofs.YthfbfbfambbkaaaGreatDoor
