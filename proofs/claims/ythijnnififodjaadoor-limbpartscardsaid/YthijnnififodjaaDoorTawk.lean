/- Text of 2^32. -/
import Derived.Test.YthijnnififodjaaDoorApp
import Derived.Test.YthijnnififodjaaDoorChk
import Derived.Laws.BytesArg
namespace Go.Proofs.YthijnnififodjaaDoor
open Go.RowKit

theorem val9_pos : ∀ {gs : List Nat}, 0 < gs.length → gs.getD (gs.length - 1) 0 ≠ 0 → 0 < val9 gs
  | [], h, _ => by simp at h
  | [x], _, h => by simp at h; simp [val9]; omega
  | x :: y :: l, _, h => by
    have : 0 < val9 (y :: l) := val9_pos (by simp) (by simpa using h)
    simp only [val9] at this ⊢; omega

theorem groups_awake {gs : List Nat} (h0 : 0 < gs.length) (hb : ∀ x ∈ gs, x < 1000000000) (hl : gs.getD (gs.length - 1) 0 ≠ 0) (hv : val9 gs = 4294967296) : gs = [294967296, 4] := by
  match gs, h0, hb, hl, hv with
  | [x], _, hb, _, hv => have := hb x (by simp); simp [val9] at hv; omega
  | [x, y], _, hb, _, hv =>
    have h1 := hb x (by simp)
    have h2 := hb y (by simp)
    simp [val9] at hv
    have e1 : x = 294967296 := by omega
    have e2 : y = 4 := by omega
    rw [e1, e2]
  | x :: y :: z :: l, _, hb, hl, hv =>
    have : 0 < val9 (z :: l) := val9_pos (by simp) (by simpa using hl)
    simp only [val9] at this hv
    omega

theorem dg_awake : [52] ++ dg 294967296 9 = [52, 50, 57, 52, 57, 54, 55, 50, 57, 54] := by decide

theorem owns_shape {w : World} {B n : Nat} {v : Value} {xs : List Value} (h : w.ownsRow B 5 1 v n xs) (hn : 0 < n) : ∃ g cap, v = .slice (some ⟨g, 0, none⟩) n cap := by
  obtain ⟨_, ⟨_, h0⟩ | ⟨g, cap, cur, rfl, _⟩⟩ := h
  · omega
  · exact ⟨g, cap, rfl⟩

set_option maxRecDepth 100000 in
set_option maxHeartbeats 2000000 in
theorem text_awake (v : Value) (w : World) (h : Sl w v [0, 1]) :
    Calls Tryd.prog 20 #[.agg #[.bool false, v]] w fun e w' => e = .returned (.tuple #[.string ⟨#[52, 50, 57, 52, 57, 54, 55, 50, 57, 54]⟩, .int .i64 0]) ∧ Kept w w' := by
  have HS : Hid (Sl w v [0, 1]) := h
  obtain ⟨bdl, ao, cap, rfl, _⟩ := h
  have hr : R false [0, 1] := ⟨by simp, fun _ => rfl, fun _ => by simp⟩
  go_enter Tryd.func20, Tryd.ntmps20
  go_wp2_with fail
  refine (check_yes false _ [0, 1] _ (HS.out.kept ((Kept.refl w).alloc _)) hr).mono ?_
  rintro e w1 ⟨rfl, hk1⟩
  have hc := hk1.cells
  have HK1 : Hid (Kept w w1) := ((Kept.refl w).alloc _).trans hk1
  clear hk1
  go_wp2_with fail
  refine (groups_any w1 (HS.out.kept HK1.out) (Or.inr (by simp)) (by simp) (by simp)).mono ?_
  rintro e w2 ⟨hk2, vg, gs, rfl, hng, hg0, hgb, hgl, hgv, _⟩
  have hgs := groups_awake hg0 hgb hgl (by rw [hgv]; rfl)
  subst hgs
  obtain ⟨bg, Ng, fg, rfl, hBg, hNg, hrg, hfg⟩ : ∃ (b N : Nat) (f : Nat → Value), vg = .slice (some ⟨b, 0, none⟩) 2 N ∧ w1.heap.size ≤ b ∧ 2 ≤ N ∧ w2.rowIs b 43 N f ∧ ∀ j, j < 2 → f j = .int .u32 ((([294967296, 4] : List Nat).getD j 0 : Nat) : Int) := by
    obtain ⟨_, ⟨_, h⟩ | h⟩ := hng
    · simp at h
    · exact h
  have hc0 : w2.cell? ⟨bg, 0, none⟩ = some (.int .u32 294967296) := by rw [hrg.cell (by omega), hfg 0 (by omega)]; rfl
  have hc1 : w2.cell? ⟨bg, 1, none⟩ = some (.int .u32 4) := by rw [hrg.cell (by omega), hfg 1 (by omega)]; rfl
  have HG : Hid (bg < w2.heap.size) := hrg.lt
  have HK2 : Hid (Kept w w2) := HK1.out.trans hk2
  clear hk2 hng hg0 hgb hgl hgv hc hrg hfg hBg
  go_wp2_with fail
  refine (appendUint_four w2).mono ?_
  rintro e w3 ⟨hk3, vt, rfl, hot⟩
  have HK3 : Hid (Kept w2 w3) := hk3
  have HOT : Hid (w3.ownsRow w2.heap.size 5 1 vt 1 (bs [52])) := hot
  have HC0 : Hid (w2.cell? ⟨bg, 0, none⟩ = some (.int .u32 294967296)) := hc0
  clear hk3 hot hc0 hc1
  go_wp2
  go_loopw [4, 7] (fun vt vi wr => ∃ k : Nat, k ≤ 1 ∧ vi = .int .i64 ((k : Int) - 1) ∧ Hid (wr.ownsRow w2.heap.size 5 1 vt (if k = 1 then 1 else 10) (bs (if k = 1 then [52] else [52] ++ dg 294967296 9))) ∧ Hid (Kept w2 wr)) (fun _ vi _ => (intOf vi + 1).toNat)
  case atStart => exact ⟨1, by omega, rfl, HOT.out, HK3.out⟩
  case round =>
    obtain ⟨k, hk, rfl, hown, hkept⟩ := hrel
    by_cases hk1 : k = 1
    · subst hk1
      have hcg : wr.cell? ⟨bg, 0, none⟩ = some (.int .u32 294967296) := (hkept.out.cell (p := ⟨bg, 0, none⟩) HG.out).trans HC0.out
      have hcall := group_any w2.heap.size u4 1 [52] 294967296 wr (by omega) hown.out (by omega) hkept.out.size
      rw [show ((294967296 : Nat) : Int) = 294967296 from rfl] at hcall
      have HC : Hid (Calls Tryd.prog 43 #[u4, .int .u32 294967296] wr fun e w' => Below w2.heap.size wr w' ∧ Lib.OthersKept 5 none wr w' ∧ ∃ v', e = .returned v' ∧ w'.ownsRow w2.heap.size 5 1 v' (1 + 9) (bs ([52] ++ dg 294967296 9))) := hcall
      clear hcall
      go_wp2_with fail
      refine HC.out.mono ?_
      rintro e w4 ⟨hb4, _, v', rfl, ho4⟩
      have HO4 : Hid (Kept w2 w4 ∧ w4.ownsRow w2.heap.size 5 1 v' 10 (bs ([52] ++ dg 294967296 9))) := ⟨Below.trans hkept.out hb4, ho4⟩
      clear hb4 ho4 HC
      go_wp2
      go_roundw
      case rel => exact ⟨0, by omega, rfl, HO4.out.2, HO4.out.1⟩
      case measure => simp [intOf]
    · obtain rfl : k = 0 := by omega
      rw [if_neg (by decide), if_neg (by decide), dg_awake] at hown
      obtain ⟨g, cp, hv⟩ := owns_shape hown.out (by decide)
      subst hv
      have hconv := run_convert_bytes_arg (P := Tryd.prog) wr 64 5 Tryd.underlying64 Tryd.underlying5 g 0 10 cp [52, 50, 57, 52, 57, 54, 55, 50, 57, 54] rfl (fun i hi => by rw [Nat.zero_add, hown.out.cellAt i (by omega)]; match i, hi with | 0, _ | 1, _ | 2, _ | 3, _ | 4, _ | 5, _ | 6, _ | 7, _ | 8, _ | 9, _ => rfl) 9 Tryd.underlying9
      go_wp2
      go_ret2
      exact ⟨rfl, HK2.out.trans hkept.out⟩

end Go.Proofs.YthijnnififodjaaDoor
