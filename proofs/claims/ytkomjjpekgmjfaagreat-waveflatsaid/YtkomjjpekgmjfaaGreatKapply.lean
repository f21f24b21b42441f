/- apply and some of limb's strides. -/
import Derived.Test.YtkomjjpekgmjfaaGreatKsure
import Derived.Deep.RegionHeld3
namespace Go.Proofs.YtkomjjpekgmjfaaGreat
open Go.RowKit
set_option maxHeartbeats 1000000 in
theorem some_any (x0 y0 x1 y1 : Nat) (t : Bool) (w : World) :
  Calls Tryz.prog 145 #[.agg #[.int .u64 (x0 : Int), .int .u64 (y0 : Int), .int .u64 (x1 : Int), .int .u64 (y1 : Int), .bool t]] w fun e w' => Kept w w' ∧ e = .returned (.bool (decide (y0 ≠ 0))) := by
 by_cases h : y0 = 0
 ·
  subst h
  go_enter Tryz.func145, Tryz.ntmps145
  go_wp2
  go_ret
  exact ⟨(Kept.refl w).alloc _, by simp⟩
 ·
  have h1 : ((y0 : Int) == 0) = false := by simp; omega
  have h2 : decide (y0 ≠ 0) = true := by simp [h]
  rw [h2]
  go_enter Tryz.func145, Tryz.ntmps145
  go_wp2
  go_ret
  exact ⟨(Kept.refl w).alloc _, by simp; exact h⟩
def AppIs (B : Nat) (w' : World) (e : Ending) (N0 N1 n : Nat) : Prop :=
 ∃ v0 l0 v1 l1, e = .returned (.tuple #[v0, v1]) ∧ New B w' v0 l0 ∧ New B w' v1 l1 ∧ M.Tr l0 ∧ M.Tr l1 ∧ M.val l0 = N0 ∧ M.val l1 = N1 ∧ l0.length ≤ n ∧ l1.length ≤ n
theorem box5_kept {w w1 : World} {c0 c1 c2 c3 c4 : Value} {t : TypeId} (h : Kept (w.alloc (.cells #[c0, c1, c2, c3, c4] t)) w1) :
  w1.cell? ⟨w.heap.size, 0, none⟩ = some c0 ∧ w1.cell? ⟨w.heap.size, 1, none⟩ = some c1 ∧ w1.cell? ⟨w.heap.size, 2, none⟩ = some c2 ∧ w1.cell? ⟨w.heap.size, 3, none⟩ = some c3 ∧ w1.cell? ⟨w.heap.size, 4, none⟩ = some c4 := by
 refine ⟨?_, ?_, ?_, ?_, ?_⟩ <;> (rw [h.cells _ _ (by simp), World.cell?_alloc_at _ _ _ _ (by simp)]; rfl)
set_option maxRecDepth 100000 in
set_option maxHeartbeats 2000000 in
theorem apply_turned (vx vy : Value) (x y : List Nat) (x0 y0 x1 y1 N0 N1 n : Nat) (w : World) (hx : Sl w vx x) (hy : Sl w vy y) (hn : x.length = n) (hn2 : n ≤ 900) (hyl : y.length ≤ n)
  (b0 : x0 < 4294967296) (b1 : y0 < 4294967296) (b2 : x1 < 4294967296) (b3 : y1 < 4294967296) (h0 : y0 * M.val y + N0 = x0 * M.val x) (h1 : x1 * M.val x + N1 = y1 * M.val y) (hN0 : N0 < 4294967296 ^ n) (hN1 : N1 < 4294967296 ^ n) :
  Calls Tryz.prog 146 #[.agg #[.int .u64 (x0 : Int), .int .u64 (y0 : Int), .int .u64 (x1 : Int), .int .u64 (y1 : Int), .bool true], vx, vy] w fun e w' => Kept w w' ∧ AppIs w.heap.size w' e N0 N1 n := by
 have HX : Hid (Sl w vx x) := hx
 have HY : Hid (Sl w vy y) := hy
 obtain ⟨_, aox, capx, rfl, _⟩ := hx
 obtain ⟨_, aoy, capy, rfl, _⟩ := hy
 have HE : Hid ((y0 * M.val y + N0 = x0 * M.val x) ∧ (x1 * M.val x + N1 = y1 * M.val y) ∧ N0 < 4294967296 ^ n ∧ N1 < 4294967296 ^ n) := ⟨h0, h1, hN0, hN1⟩
 rw [hn]
 have HN : Hid (x.length = n ∧ y.length ≤ n) := ⟨hn, hyl⟩
 rw [hn] at HX
 clear h0 h1 hN0 hN1 hn hyl
 have K1 : ∀ z, Kept w (w.alloc z).drew := fun z => ((Kept.refl w).alloc z).drew
 go_enter Tryz.func146, Tryz.ntmps146
 go_wp2_with fail
 go_region_held3 (fun w' => w'.cell? ⟨w.heap.size, 0, none⟩ = some (.int .u64 (x0 : Int)) ∧ w'.cell? ⟨w.heap.size, 1, none⟩ = some (.int .u64 (y0 : Int)) ∧ w'.cell? ⟨w.heap.size, 2, none⟩ = some (.int .u64 (x1 : Int)) ∧ w'.cell? ⟨w.heap.size, 3, none⟩ = some (.int .u64 (y1 : Int))) (go_keep) (first
  | (go_at_call_of 153 (Value.int IntKind.u64 (x0 : Int)); refine (blend_any n _ _ x y x0 y0 _ ?_ ?_ (by omega) (by have := HN.out; omega) (by have := HN.out; omega) (by assumption) (by assumption) (by have := HE.out; omega) (by have := HE.out; omega)).mono ?_; exact HX.out.kept (K1 _); exact HY.out.kept (K1 _); rintro e w3 ⟨hk3, v0, l0, rfl, hn0, ht0, hv0, hl0⟩; obtain ⟨hb0, hb1, hb2, hb3, hb4⟩ := box5_kept ((Kept.refl _).drew.trans hk3))
  | (go_at_call_of 153 (Value.int IntKind.u64 (y1 : Int)); refine (blend_any n _ _ y x y1 x1 _ ?_ ?_ (by omega) (by have := HN.out; omega) (by have := HN.out; omega) (by assumption) (by assumption) (by have := HE.out; omega) (by have := HE.out; omega)).mono ?_; exact HY.out.kept ((K1 _).trans hk3); exact HX.out.kept ((K1 _).trans hk3); rintro e w4 ⟨hk4, v1, l1, rfl, hn1, ht1, hv1, hl1⟩; obtain ⟨hb5, hb6, hb7, hb8, hb9⟩ := box5_kept ((Kept.refl _).drew.trans (hk3.trans hk4))))
 have HF : Hid (Kept w w4 ∧ New w.heap.size w4 v0 l0 ∧ New w.heap.size w4 v1 l1 ∧ M.Tr l0 ∧ M.Tr l1 ∧ M.val l0 = N0 ∧ M.val l1 = N1 ∧ l0.length ≤ n ∧ l1.length ≤ n) := by
  have hs := hk3.size
  refine ⟨((K1 _).trans hk3).trans hk4, (hn0.kept hk4).mono (by simp), hn1.mono (by have := ((K1 (.cells #[] 0)).size); simp at hs; omega), ht0, ht1, ?_, ?_, hl0, hl1⟩
  ·
   rw [hv0]; have := HE.out; omega
  ·
   rw [hv1]; have := HE.out; omega
 clear hk3 hk4 hn0 hn1 ht0 ht1 hv0 hv1 hl0 hl1 hb0 hb1 hb2 hb3 hb4 hb5 hb6 hb7 hb8 hb9
 go_wp2
 go_ret2
 exact ⟨HF.out.1, v0, l0, v1, l1, rfl, HF.out.2⟩
set_option maxRecDepth 100000 in
set_option maxHeartbeats 2000000 in
theorem apply_plain (vx vy : Value) (x y : List Nat) (x0 y0 x1 y1 N0 N1 n : Nat) (w : World) (hx : Sl w vx x) (hy : Sl w vy y) (hn : x.length = n) (hn2 : n ≤ 900) (hyl : y.length ≤ n)
  (b0 : x0 < 4294967296) (b1 : y0 < 4294967296) (b2 : x1 < 4294967296) (b3 : y1 < 4294967296) (h0 : x0 * M.val x + N0 = y0 * M.val y) (h1 : y1 * M.val y + N1 = x1 * M.val x) (hN0 : N0 < 4294967296 ^ n) (hN1 : N1 < 4294967296 ^ n) :
  Calls Tryz.prog 146 #[.agg #[.int .u64 (x0 : Int), .int .u64 (y0 : Int), .int .u64 (x1 : Int), .int .u64 (y1 : Int), .bool false], vx, vy] w fun e w' => Kept w w' ∧ AppIs w.heap.size w' e N0 N1 n := by
 have HX : Hid (Sl w vx x) := hx
 have HY : Hid (Sl w vy y) := hy
 obtain ⟨_, aox, capx, rfl, _⟩ := hx
 obtain ⟨_, aoy, capy, rfl, _⟩ := hy
 have HE : Hid ((x0 * M.val x + N0 = y0 * M.val y) ∧ (y1 * M.val y + N1 = x1 * M.val x) ∧ N0 < 4294967296 ^ n ∧ N1 < 4294967296 ^ n) := ⟨h0, h1, hN0, hN1⟩
 rw [hn]
 have HN : Hid (x.length = n ∧ y.length ≤ n) := ⟨hn, hyl⟩
 rw [hn] at HX
 clear h0 h1 hN0 hN1 hn hyl
 have K1 : ∀ z, Kept w (w.alloc z).drew := fun z => ((Kept.refl w).alloc z).drew
 go_enter Tryz.func146, Tryz.ntmps146
 go_wp2_with fail
 go_region_held3 (fun w' => w'.cell? ⟨w.heap.size, 0, none⟩ = some (.int .u64 (x0 : Int)) ∧ w'.cell? ⟨w.heap.size, 1, none⟩ = some (.int .u64 (y0 : Int)) ∧ w'.cell? ⟨w.heap.size, 2, none⟩ = some (.int .u64 (x1 : Int)) ∧ w'.cell? ⟨w.heap.size, 3, none⟩ = some (.int .u64 (y1 : Int))) (go_keep) (first
  | (go_at_call_of 153 (Value.int IntKind.u64 (y0 : Int)); refine (blend_any n _ _ y x y0 x0 _ ?_ ?_ (by omega) (by have := HN.out; omega) (by have := HN.out; omega) (by assumption) (by assumption) (by have := HE.out; omega) (by have := HE.out; omega)).mono ?_; exact HY.out.kept (K1 _); exact HX.out.kept (K1 _); rintro e w3 ⟨hk3, v0, l0, rfl, hn0, ht0, hv0, hl0⟩; obtain ⟨hb0, hb1, hb2, hb3, hb4⟩ := box5_kept ((Kept.refl _).drew.trans hk3))
  | (go_at_call_of 153 (Value.int IntKind.u64 (x1 : Int)); refine (blend_any n _ _ x y x1 y1 _ ?_ ?_ (by omega) (by have := HN.out; omega) (by have := HN.out; omega) (by assumption) (by assumption) (by have := HE.out; omega) (by have := HE.out; omega)).mono ?_; exact HX.out.kept ((K1 _).trans hk3); exact HY.out.kept ((K1 _).trans hk3); rintro e w4 ⟨hk4, v1, l1, rfl, hn1, ht1, hv1, hl1⟩; obtain ⟨hb5, hb6, hb7, hb8, hb9⟩ := box5_kept ((Kept.refl _).drew.trans (hk3.trans hk4))))
 have HF : Hid (Kept w w4 ∧ New w.heap.size w4 v0 l0 ∧ New w.heap.size w4 v1 l1 ∧ M.Tr l0 ∧ M.Tr l1 ∧ M.val l0 = N0 ∧ M.val l1 = N1 ∧ l0.length ≤ n ∧ l1.length ≤ n) := by
  have hs := hk3.size
  refine ⟨((K1 _).trans hk3).trans hk4, (hn0.kept hk4).mono (by simp), hn1.mono (by have := ((K1 (.cells #[] 0)).size); simp at hs; omega), ht0, ht1, ?_, ?_, hl0, hl1⟩
  ·
   rw [hv0]; have := HE.out; omega
  ·
   rw [hv1]; have := HE.out; omega
 clear hk3 hk4 hn0 hn1 ht0 ht1 hv0 hv1 hl0 hl1 hb0 hb1 hb2 hb3 hb4 hb5 hb6 hb7 hb8 hb9
 go_wp2
 go_ret2
 exact ⟨HF.out.1, v0, l0, v1, l1, rfl, HF.out.2⟩
end Go.Proofs.YtkomjjpekgmjfaaGreat
