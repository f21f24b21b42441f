/- whole of package shuntlaw01. -/
import Derived.Test.YtiadnlpbbibkgaaDoorLent
namespace Go.Proofs.YtiadnlpbbibkgaaDoor
open Go.RowKit

set_option maxRecDepth 100000 in
set_option maxHeartbeats 4000000 in
theorem whole_yes (B : Nat) (m : Bool) (b n cap : Nat) (ao : Option Addr) (cap' : Nat) (l : List Nat) (w : World) (hx : Lent B w b n cap l) (ha : Sl w (.slice ao n cap') l) (hl : l.length ≤ 80) :
    Calls Tryd.prog 19 #[.agg #[.bool m, .slice (some ⟨b, 0, none⟩) n cap], .agg #[.bool m, .slice ao n cap']] w fun e w' => e = .returned (.bool true) ∧ Kept w w' := by
  obtain ⟨_, hlt, hcap, _, hmk⟩ := hx.at
  have hn := ha.len
  subst hn
  have HX : Hid (Sl w (.slice (some ⟨b, 0, none⟩) l.length cap) l ∧ Sl w (.slice ao l.length cap') l) := ⟨hx.sl, ha⟩
  have hcap2 : l.length ≤ cap := by omega
  have hcap3 : (l.length : Int) + 1 ≤ cap := by omega
  have hix1 : (l.length : Int) < (l.length : Int) + 1 := by omega
  have hix2 : (l.length : Int) < ((l.length + 1 : Nat) : Int) := by omega
  have hix3 : (0 : Int) ≤ (l.length : Int) := by omega
  have hpos : (0 : Int) ≤ (l.length : Int) + 1 := by omega
  have hw1 : IntKind.i64.wrap ((l.length : Int) + 1) = (l.length : Int) + 1 := by rw [IntKind.wrap_i64]; omega
  have htn : ((l.length : Int) + 1).toNat = l.length + 1 := by omega
  clear hx ha
  go_enter Tryd.func19, Tryd.ntmps19
  go_wp2_with fail
  have K2 : ∀ x y, Kept w ((w.alloc x).alloc y) := fun x y => ((Kept.refl w).alloc x).alloc y
  have hmk2 := fun x y => cell_kept (K2 x y) hmk
  go_region_held3 (fun w' => w'.cell? ⟨w.heap.size, 0, none⟩ = some (.bool m) ∧ w'.cell? ⟨w.heap.size, 1, none⟩ = some (.slice (some ⟨b, 0, none⟩) l.length cap) ∧ w'.cell? ⟨w.heap.size + 1, 0, none⟩ = some (.bool m) ∧ w'.cell? ⟨w.heap.size + 1, 1, none⟩ = some (.slice ao l.length cap') ∧ w'.cell? ⟨b, l.length, none⟩ = some (.int .u32 11259375)) (go_keep) (first
    | (go_at_call 18; refine (lsame_any true m m _ _ l l _ (HX.out.1.kept (K2 _ _).drew) (HX.out.2.kept (K2 _ _).drew) (by omega) (by omega) (by simp)).mono ?_; rintro e w1 ⟨rfl, hk⟩; obtain ⟨hA0, hA1, hB0, hB1⟩ := box_kept2 (((Kept.refl _).drew).trans hk); have hmk1 := cell_kept (((K2 _ _).drew).trans hk) hmk))
  have HK : Hid (Kept w w1) := ((K2 _ _).drew).trans hk
  clear hk hmk2 K2
  go_wp2
  go_ret
  exact ⟨rfl, HK.out⟩


end Go.Proofs.YtiadnlpbbibkgaaDoor
