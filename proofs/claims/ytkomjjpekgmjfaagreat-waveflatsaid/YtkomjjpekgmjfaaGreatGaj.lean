/- Take of package shuntref01: limbs as digits in base 65536. Less, Sign, Held of package shuntref01. -/
import Derived.Test.YtkomjjpekgmjfaaGreatGah
import Derived.Deep.AppendLies
import Derived.Test.YtkomjjpekgmjfaaGreatGad
namespace Go.Proofs.YtkomjjpekgmjfaaGreat
open Go.RowKit
namespace D
end D
end Go.Proofs.YtkomjjpekgmjfaaGreat

namespace Go.Proofs.YtkomjjpekgmjfaaGreat
open Go.RowKit
namespace D
theorem sign_of {w : World} {m : Bool} {ao : Option Addr} {k cap : Nat} {z : Int} (h : NIs w m (.slice ao k cap) z) : isgn z 0 = if k = 0 then 0 else if m then -1 else 1 := by
 obtain ⟨l, hs, hr, rfl⟩ := h
 have e := hs.len
 subst e
 by_cases h0 : l.length = 0
 ·
  rw [if_pos h0, int_zero h0]; rfl
 ·
  have hp := D.val_pos hr.tr (fun e => h0 (by rw [e]; rfl))
  rw [if_neg h0]
  unfold isgn int
  cases m <;> simp <;> omega
end D
end Go.Proofs.YtkomjjpekgmjfaaGreat
