/- bits.Len32 and bits.LeadingZeros32 of this program. -/
import Derived.Test.YtdcgdpbgnijnpaaGreatProg
import Derived.Lib.BitFns
import Derived.Lib.Walk
namespace Go.Proofs.YtdcgdpbgnijnpaaGreat
theorem low_len (x y:Int) (n:Nat) (h0:0≤x) (h1:x≤4294967295) (hy:y.toNat = x.toNat / 2 ^ n) (hn:n = 0 ∨ 2 ^ n≤x.toNat) (y0:0≤y) (y1:y≤255):Lib.len8 y + n = (Lib.bitLen x.toNat:Int)∧0≤Lib.len8 y∧Lib.len8 y≤8:=by
 have h:=Lib.bitLen_le8' y y0 y1
 rw [Lib.len8_of y y0 y1]
 refine ⟨?_,by omega,by omega⟩
 rw [hy]
 rcases hn with rfl | hn
 ·
  simp
 ·
  rw [Lib.bitLen_shift n x.toNat hn (by omega)]; omega
set_option maxHeartbeats 4000000 in
set_option maxRecDepth 100000 in
theorem len32_any (x:Int) (w:World) (h0:0≤x) (h1:x≤4294967295) :
  Calls Tryz.prog 133 #[.int .u32 x] w fun e w' => e = .returned (.int .i64 (Lib.bitLen x.toNat))∧w' = w:=by
 go_enter Tryz.func133,Tryz.ntmps133
 go_wp2
 all_goals
  go_ret
  refine ⟨congrArg Ending.returned (congrArg (Value.int IntKind.i64) ?_),rfl⟩
 all_goals first
  | (have h:=low_len x (x / 65536 / 256 % 256) 24 h0 h1 (by omega) (.inr (by omega)) (by omega) (by omega); omega)
  | (have h:=low_len x (x / 65536 % 256) 16 h0 h1 (by omega) (.inr (by omega)) (by omega) (by omega); omega)
  | (have h:=low_len x (x / 256 % 256) 8 h0 h1 (by omega) (.inr (by omega)) (by omega) (by omega); omega)
  | (have h:=low_len x (x % 256) 0 h0 h1 (by omega) (.inl rfl) (by omega) (by omega); omega)
theorem lzeros_any (x:Int) (w:World) (h0:0≤x) (h1:x≤4294967295) :
  Calls Tryz.prog 145 #[.int .u32 x] w fun e w' => e = .returned (.int .i64 (32 - (Lib.bitLen x.toNat:Int)))∧w' = w:=by
 have l:=Lib.bitLen_le x.toNat 32 (by omega) (by omega)
 have e8:(32 - (Lib.bitLen x.toNat:Int) + 9223372036854775808) % 18446744073709551616 - 9223372036854775808 = 32 - (Lib.bitLen x.toNat:Int):=by omega
 go_enter Tryz.func145,Tryz.ntmps145
 go_wp2_with fail
 refine (len32_any x _ h0 h1).mono ?_
 rintro e w' ⟨rfl,rfl⟩
 go_wp2
 go_ret
 refine ⟨?_,rfl⟩
 rw [← e8]
 rfl
end Go.Proofs.YtdcgdpbgnijnpaaGreat
