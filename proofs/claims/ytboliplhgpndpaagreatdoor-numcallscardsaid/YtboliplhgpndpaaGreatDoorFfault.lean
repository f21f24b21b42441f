/- shuntref02.Fault: what a fraction is refused for. -/
import Derived.Test.YtboliplhgpndpaaGreatDoorGap
import Derived.Test.YtboliplhgpndpaaGreatDoorGai
namespace Go.Proofs.YtboliplhgpndpaaGreatDoor
open Go.RowKit
namespace D
theorem small_num (x : Int) (w : World) (h0 : 0 ≤ x) (h1 : x < 65536) :
  Calls Tryz.prog 26 #[.int .i64 x] w fun e w' => Kept w w' ∧ ∃ ao n cap, e = .returned (.agg #[.bool false, .slice ao n cap]) ∧ NIs w' false (.slice ao n cap) x ∧ n ≤ 1 := by
 obtain ⟨v, rfl⟩ := Int.eq_ofNat_of_zero_le h0
 refine (small_any v w (by omega)).mono ?_
 rintro e w' ⟨hk, ao, n, cap, l, rfl, hs, ht, hv, hl⟩
 exact ⟨hk, ao, n, cap, rfl, ⟨l, hs, ⟨hs.bd, ht, fun _ => rfl⟩, by simp [int, hv]⟩, by rw [hs.len]; exact hl⟩
end D
namespace F
end F
end Go.Proofs.YtboliplhgpndpaaGreatDoor
