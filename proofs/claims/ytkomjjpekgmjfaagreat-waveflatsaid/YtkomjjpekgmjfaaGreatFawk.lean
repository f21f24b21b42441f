/- shuntlaw02.awake: it answers true. -/
import Derived.Test.YtkomjjpekgmjfaaGreatGar
import Derived.Test.YtkomjjpekgmjfaaGreatFround
import Derived.Test.YtkomjjpekgmjfaaGreatGaq
namespace Go.Proofs.YtkomjjpekgmjfaaGreat
open Go.RowKit
namespace F
theorem Sl.one {w : World} {ao : Option Addr} {k c x : Nat} (h : Sl w (.slice ao k c) [x]) : k = 1 ∧ 1 ≤ c ∧ ∃ b off, ao = some ⟨b, off, none⟩ ∧ w.cell? ⟨b, off, none⟩ = some (.int .u32 (x : Int)) := by
 obtain ⟨_, ao', cap, hv, hx⟩ := h
 simp only [Value.slice.injEq] at hv
 obtain ⟨rfl, rfl, rfl⟩ := hv
 obtain ⟨h1, b, off, rfl, _, hc⟩ := hx (by simp)
 exact ⟨by simp, by simpa using h1, b, off, rfl, by simpa using hc 0 (by simp)⟩
end F
end Go.Proofs.YtkomjjpekgmjfaaGreat
