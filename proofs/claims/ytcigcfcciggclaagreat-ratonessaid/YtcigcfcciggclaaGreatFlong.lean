/- shuntlaw02.long, of four. -/
import Derived.Test.YtcigcfcciggclaaGreatGan
namespace Go.Proofs.YtcigcfcciggclaaGreat
open Go.RowKit
namespace F

/-- Int number i of a list at block b. -/
def IntAt (w : World) (b i : Nat) (k c : Nat) (s : Bool) (ao : Option Addr) : Prop := w.cell? ⟨b, i * 2, none⟩ = some (.bool s) ∧ w.cell? ⟨b, i * 2 + 1, none⟩ = some (.slice ao k c)

set_option maxHeartbeats 4000000 in
theorem long_any (b N cap : Nat) (w : World) (s : Nat → Bool) (ao : Nat → Option Addr) (k c : Nat → Nat) (hN : N ≤ 100) (H : ∀ i, i < N → IntAt w b i (k i) (c i) (s i) (ao i)) :
    Calls Tryz.prog 6 #[.slice (some ⟨b, 0, none⟩) N cap] w fun e w' => Kept w w' ∧ ∃ r : Bool, e = .returned (.bool r) ∧ (r = false → ∀ i, i < N → k i ≤ 160) := by
  have HH := hid' H
  clear H
  go_enter Tryz.func6, Tryz.ntmps6
  go_wp2_with fail
  go_loopw [3, 8] (fun vn vi wr => ∃ (j n : Nat), j ≤ N ∧ vi = .int .i64 (j : Int) ∧ vn = .int .i64 (n : Int) ∧ n ≤ 1000 * j ∧ Hid (Kept w wr ∧ ∀ i, i < j → k i ≤ 160 ∨ 160 < n)) (fun _ vi _ => N - (intOf vi).toNat)
  case atStart => exact ⟨0, 0, Nat.zero_le _, rfl, rfl, by omega, Kept.refl w, fun i hi => by omega⟩
  case round =>
    obtain ⟨j, n, hj, rfl, rfl, hn, HK⟩ := hrel
    by_cases hlt : j < N
    · obtain ⟨h0, h1⟩ := HH.out j hlt
      have h0 := cell_kept HK.out.1 h0
      have h1 := cell_kept HK.out.1 h1
      obtain ⟨q, hq⟩ : ∃ q, q = min (k j) 1000 := ⟨_, rfl⟩
      have HQ := hid' hq
      have hq1 : q ≤ 1000 := by omega
      have hmin : (min ((k j : Nat) : Int) 1000) = (q : Int) := by omega
      have hb : (n : Int) + (q : Int) ≤ 9223372036854775807 := by omega
      clear hq
      go_wp2_with fail
      go_roundw
      case rel =>
        refine ⟨j + 1, n + q, by omega, by go_num, by go_num, by omega, HK.out.1.alloc _, fun i hi => ?_⟩
        by_cases e : i = j
        · subst e
          have := HQ.out
          omega
        · have := HK.out.2 i (by omega)
          omega
      case measure => simp [intOf]; omega
    · go_wp2
      go_ret
      refine ⟨HK.out.1, _, rfl, fun h i hi => ?_⟩
      have h1 := HK.out.2 i (by omega)
      simp at h
      omega

end F
end Go.Proofs.YtcigcfcciggclaaGreat
