/- shuntref02: Grid, Round. -/
import Derived.Test.YtboliplhgpndpaaGreatDoorGnear
import Derived.Test.YtboliplhgpndpaaGreatDoorGav
import Derived.Test.YtboliplhgpndpaaGreatDoorRwhole
namespace Go.Proofs.YtboliplhgpndpaaGreatDoor
open Go.RowKit
namespace F
set_option maxHeartbeats 4000000 in
theorem Grid_any (s t : Bool) (a1 a2 : Option Addr) (k1 c1 k2 c2 : Nat) (X Y : Int) (w : World) (h1 : D.NIs w s (.slice a1 k1 c1) X) (h2 : D.NIs w t (.slice a2 k2 c2) Y) (hl1 : k1 ≤ 900) (hl2 : k2 ≤ 900) (hy : 0 < Y) :
  Calls Tryz.prog 44 #[.agg #[.bool s, .slice a1 k1 c1, .bool t, .slice a2 k2 c2]] w fun e w' => Kept w w' ∧ e = .returned (.tuple #[.int .i64 (gridV (near X Y.toNat)), .int .i64 (gridE (near X Y.toNat))]) := by
 have HA : Hid (D.NIs w s (.slice a1 k1 c1) X ∧ D.NIs w t (.slice a2 k2 c2) Y ∧ k1 ≤ 900 ∧ k2 ≤ 900 ∧ 0 < Y) := ⟨h1, h2, hl1, hl2, hy⟩
 clear h1 h2 hl1 hl2 hy
 obtain ⟨z, HZ⟩ : ∃ z, Hid (near X Y.toNat = z) := ⟨_, rfl⟩
 rw [HZ.out]
 go_enter Tryz.func44, Tryz.ntmps44
 go_wp2_with fail
 refine (Near_any s t a1 a2 k1 c1 k2 c2 X Y _ (HA.out.1.kept ((Kept.refl w).alloc _)) (HA.out.2.1.kept ((Kept.refl w).alloc _)) HA.out.2.2.1 HA.out.2.2.2.1 HA.out.2.2.2.2).mono ?_
 rw [HZ.out]
 rintro e w1 ⟨hk1, s3, a3, k3, c3, rfl, n3, l3⟩
 have HK1 := hid' (((Kept.refl w).alloc _).trans hk1)
 have H3 := hid' (And.intro n3 l3)
 clear hk1 n3 l3
 go_wp2_with fail
 refine (D.Whole_any s3 a3 k3 c3 z _ H3.out.1 (by have h1 := H3.out.2; have h2 := HA.out.2.2.1; omega)).mono ?_
 by_cases hin : -9223372036854775808 ≤ z ∧ z ≤ 9223372036854775807
 ·
  rw [show i64r z = z by unfold i64r; rw [if_pos hin], show (i64e z == 0) = true by unfold i64e; rw [if_pos hin]; rfl]
  rintro e w2 ⟨rfl, hk2⟩
  have HK2 := hid' (HK1.out.trans hk2)
  clear hk2
  by_cases hg : -1000000000000000000 ≤ z ∧ z ≤ 1000000000000000000
  ·
   have HG := hid' hg
   have g1 : ¬ 1000000000000000000 < z := by omega
   have g2 : ¬ z < -1000000000000000000 := by omega
   clear hg hin
   go_wp2
   go_ret2
   exact ⟨HK2.out, ret_grid HG.out rfl⟩
  ·
   have HG := hid' hg
   by_cases g1 : 1000000000000000000 < z
   ·
    clear hg hin
    go_wp2
    go_ret2
    exact ⟨HK2.out, ret_off HG.out⟩
   ·
    have g2 : z < -1000000000000000000 := by omega
    clear hg hin
    go_wp2
    go_ret2
    exact ⟨HK2.out, ret_off HG.out⟩
 ·
  rw [show (i64e z == 0) = false by unfold i64e; rw [if_neg hin]; rfl]
  have HG : Hid (¬ (-1000000000000000000 ≤ z ∧ z ≤ 1000000000000000000)) := fun h => hin (by omega)
  clear hin
  rintro e w2 ⟨rfl, hk2⟩
  have HK2 := hid' (HK1.out.trans hk2)
  clear hk2
  generalize i64r z = q
  go_wp2
  go_ret2
  exact ⟨HK2.out, ret_off HG.out⟩
end F
end Go.Proofs.YtboliplhgpndpaaGreatDoor
