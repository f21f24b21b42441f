/- sparse.bit, math/bits.OnesCount64; and, or, and-not of words. -/
import Derived.Test.YtdcgdpbgnijnpaaGreatGaa
import Derived.Test.YtdcgdpbgnijnpaaGreatGah
import Derived.Laws.Bits64b
namespace Go.Proofs.YtdcgdpbgnijnpaaGreat
open Go.RowKit
namespace Sp
theorem st1_le (x:Nat):st1 8 x < 18446744073709551616:=by
 unfold st1
 have h1:x / 2 &&& mask 85 8≤mask 85 8:=Nat.and_le_right
 have h2:x &&& mask 85 8≤mask 85 8:=Nat.and_le_right
 have h3:mask 85 8 = 6148914691236517205:=by decide
 omega
theorem st2_le (x:Nat):st2 8 x < 9000000000000000000:=by
 unfold st2
 have h1:x / 4 &&& mask 51 8≤mask 51 8:=Nat.and_le_right
 have h2:x &&& mask 51 8≤mask 51 8:=Nat.and_le_right
 have h3:mask 51 8 = 3689348814741910323:=by decide
 omega
theorem val1 (x:Nat) (hx:x < 18446744073709551616):IntKind.u64.wrap (bits .and .u64 ((x:Int) / 2) 6148914691236517205 + bits .and .u64 (x:Int) 6148914691236517205) = ((st1 8 x:Nat):Int):=by
 have e1:=bits_and_u64_nat (x / 2) 6148914691236517205 (by omega) (by omega)
 have e2:=bits_and_u64_nat x 6148914691236517205 (by omega) (by omega)
 have h:=st1_le x
 have e:st1 8 x = (x / 2 &&& 6148914691236517205) + (x &&& 6148914691236517205):=rfl
 rw [show ((x:Int) / 2) = ((x / 2:Nat):Int) by omega,show (6148914691236517205:Int) = ((6148914691236517205:Nat):Int) from rfl,e1,e2,IntKind.wrap_u64]
 rw [e] at h ⊢
 omega
theorem val2 (x:Nat) (hx:x < 18446744073709551616):IntKind.u64.wrap (bits .and .u64 ((x:Int) / 4) 3689348814741910323 + bits .and .u64 (x:Int) 3689348814741910323) = ((st2 8 x:Nat):Int):=by
 have e1:=bits_and_u64_nat (x / 4) 3689348814741910323 (by omega) (by omega)
 have e2:=bits_and_u64_nat x 3689348814741910323 (by omega) (by omega)
 have h:=st2_le x
 have e:st2 8 x = (x / 4 &&& 3689348814741910323) + (x &&& 3689348814741910323):=rfl
 rw [show ((x:Int) / 4) = ((x / 4:Nat):Int) by omega,show (3689348814741910323:Int) = ((3689348814741910323:Nat):Int) from rfl,e1,e2,IntKind.wrap_u64]
 rw [e] at h ⊢
 omega
theorem val3 (x:Nat) (hx:x < 9000000000000000000):bits .and .u64 (IntKind.u64.wrap ((x:Int) / 16 + (x:Int))) 1085102592571150095 = ((st3 8 x:Nat):Int):=by
 have e1:=bits_and_u64_nat (x / 16 + x) 1085102592571150095 (by omega) (by omega)
 rw [show IntKind.u64.wrap ((x:Int) / 16 + (x:Int)) = ((x / 16 + x:Nat):Int) by rw [IntKind.wrap_u64]; omega,show (1085102592571150095:Int) = ((1085102592571150095:Nat):Int) from rfl,e1]
 rfl
theorem and_i64 (a:Nat) (ha:a < 9223372036854775808):bits .and .i64 (a:Int) 127 = ((a % 128:Nat):Int):=by
 have h1:(BitVec.ofInt 64 (a:Int)).toNat = a:=by
  rw [BitVec.ofInt_natCast,BitVec.toNat_ofNat]; exact Nat.mod_eq_of_lt (by omega)
 show IntKind.i64.wrap ((BitVec.ofInt 64 (a:Int) &&& BitVec.ofInt 64 (127:Int)).toNat:Int) = _
 rw [BitVec.toNat_and,h1,show (BitVec.ofInt 64 (127:Int)).toNat = 2 ^ 7 - 1 from rfl,Nat.and_two_pow_sub_one_eq_mod,IntKind.wrap_i64]
 omega
set_option maxRecDepth 100000 in
set_option maxHeartbeats 8000000 in
theorem bit_any (k y:Nat) (w:World) (hk:k < 64) (hy:y = 2 ^ k) :
  Calls Tryz.prog 100 #[.int .i64 (k:Int)] w fun e w' => w' = w∧e = .returned (.int .u64 (y:Int)):=by
 have hp:(2:Nat) ^ k < 18446744073709551616:=Nat.pow_lt_pow_of_lt (a:=2) (n:=k) (m:=64) (by omega) hk
 have HZ:=hid (show IntKind.u64.wrap (2 ^ k) = (y:Int) by
  have h1:((2 ^ k:Nat):Int) = (2:Int) ^ k:=by rw [Int.natCast_pow]; rfl
  rw [IntKind.wrap_u64,← h1,← hy]
  rw [← hy] at hp
  omega)
 clear hp hy
 go_enter Tryz.func100,Tryz.ntmps100
 --%A
 go_wp2_with fail
 --%B
 go_ret
 exact ⟨rfl,by rw [← HZ.out]; rfl⟩
set_option maxRecDepth 100000 in
set_option maxHeartbeats 8000000 in
theorem ones_any (x:Nat) (w:World) (hx:x < 18446744073709551616) :
  Calls Tryz.prog 115 #[.int .u64 (x:Int)] w fun e w' => w' = w∧e = .returned (.int .i64 (bitsC x 64:Int)):=by
 go_enter Tryz.func115,Tryz.ntmps115
 --%C
 go_wp2_with fail
 --%D
 go_ret
 refine ⟨rfl,congrArg (fun z => Ending.returned (Value.int .i64 z)) ?_⟩
 obtain ⟨p,hp⟩:∃ p,p = st1 8 x:=⟨_,rfl⟩
 obtain ⟨q,hq⟩:∃ q,q = st2 8 p:=⟨_,rfl⟩
 obtain ⟨r,hr⟩:∃ r,r = st3 8 q:=⟨_,rfl⟩
 obtain ⟨h1,h2,h3,h4,h5⟩:=ones_is x hx p q r _ _ _ hp hq hr rfl rfl rfl
 rw [val1 x hx,← hp,val2 p (by rw [hp]; exact st1_le x),← hq,val3 q (by rw [hq]; exact st2_le p),← hr]
 have e1:IntKind.u64.wrap ((r:Int) + (r:Int) / 256) = ((r + r / 256:Nat):Int):=by rw [IntKind.wrap_u64]; omega
 rw [e1]
 generalize r + r / 256 = y at h2 h3 h4 h5 ⊢
 have e2:IntKind.u64.wrap ((y:Int) + (y:Int) / 65536) = ((y + y / 65536:Nat):Int):=by rw [IntKind.wrap_u64]; omega
 rw [e2]
 generalize y + y / 65536 = z at h3 h4 h5 ⊢
 have e3:IntKind.u64.wrap ((z:Int) + (z:Int) / 4294967296) = ((z + z / 4294967296:Nat):Int):=by rw [IntKind.wrap_u64]; omega
 rw [e3]
 generalize z + z / 4294967296 = u at h4 h5 ⊢
 rw [show wrap64 (u:Int) = (u:Int) by unfold wrap64; omega,and_i64 u h4,h5]
end Sp
end Go.Proofs.YtdcgdpbgnijnpaaGreat
