/- whole of package shuntlaw01. What was lent, behind stores elsewhere. -/
import Derived.Test.YthijnnififodjaaDoorLent
import Derived.Test.YthijnnififodjaaDoorRset2
namespace Go.Proofs.YthijnnififodjaaDoor
open Go.RowKit

set_option maxRecDepth 100000 in
set_option maxHeartbeats 4000000 in
theorem whole_yes (B : Nat) (m : Bool) (b n cap : Nat) (ao : Option Addr) (cap' : Nat) (l : List Nat) (w : World) (hx : Lent B w b n cap l) (ha : Sl w (.slice ao n cap') l) (hl : l.length ≤ 80) :
    Calls Tryd.prog 14 #[.agg #[.bool m, .slice (some ⟨b, 0, none⟩) n cap], .agg #[.bool m, .slice ao n cap']] w fun e w' => e = .returned (.bool true) ∧ Kept w w' := by
  obtain ⟨_, hlt, hcap, _, hmk⟩ := hx.at
  have hn := ha.len
  subst hn
  have HX : Hid (Sl w (.slice (some ⟨b, 0, none⟩) l.length cap) l ∧ Sl w (.slice ao l.length cap') l) := ⟨hx.sl, ha⟩
  have hcap2 : l.length ≤ cap := by omega
  have hcap3 : (l.length : Int) + 1 ≤ cap := by omega
  have hix1 : (l.length : Int) < (l.length : Int) + 1 := by omega
  have hix2 : (l.length : Int) < ((l.length + 1 : Nat) : Int) := by omega
  have hix3 : (0 : Int) ≤ (l.length : Int) := by omega
  have hpos : (0 : Int) ≤ (l.length : Int) + 1 := by omega
  have hw1 : IntKind.i64.wrap ((l.length : Int) + 1) = (l.length : Int) + 1 := by rw [IntKind.wrap_i64]; omega
  have htn : ((l.length : Int) + 1).toNat = l.length + 1 := by omega
  clear hx ha
  go_enter Tryd.func14, Tryd.ntmps14
  go_wp2_with fail
  have K2 : ∀ x y, Kept w ((w.alloc x).alloc y) := fun x y => ((Kept.refl w).alloc x).alloc y
  have hmk2 := fun x y => cell_kept (K2 x y) hmk
  go_region_held3 (fun w' => w'.cell? ⟨w.heap.size, 0, none⟩ = some (.bool m) ∧ w'.cell? ⟨w.heap.size, 1, none⟩ = some (.slice (some ⟨b, 0, none⟩) l.length cap) ∧ w'.cell? ⟨w.heap.size + 1, 0, none⟩ = some (.bool m) ∧ w'.cell? ⟨w.heap.size + 1, 1, none⟩ = some (.slice ao l.length cap') ∧ w'.cell? ⟨b, l.length, none⟩ = some (.int .u32 11259375)) (go_keep) (first
    | (go_at_call 13; refine (lsame_any true m m _ _ l l _ (HX.out.1.kept (K2 _ _).drew) (HX.out.2.kept (K2 _ _).drew) (by omega) (by omega) (by simp)).mono ?_; rintro e w1 ⟨rfl, hk⟩; obtain ⟨hA0, hA1, hB0, hB1⟩ := box_kept2 (((Kept.refl _).drew).trans hk); have hmk1 := cell_kept (((K2 _ _).drew).trans hk) hmk))
  have HK : Hid (Kept w w1) := ((K2 _ _).drew).trans hk
  clear hk hmk2 K2
  go_wp2
  go_ret
  exact ⟨rfl, HK.out⟩


end Go.Proofs.YthijnnififodjaaDoor

namespace Go.Proofs.YthijnnififodjaaDoor
open Go.RowKit
open D (set2_far set2_at)

theorem Lent.box {B : Nat} {w : World} {b n cap : Nat} {l : List Nat} {p : Nat} {q : Bool} (h : Lent B w b n cap l) (h0 : w.cell? ⟨p, 0, none⟩ = some (.bool q)) (x y : Value) : Lent B ((w.setCell ⟨p, 0, none⟩ x).setCell ⟨p, 1, none⟩ y) b n cap l := by
  have hne : b ≠ p := by
    rintro rfl
    obtain ⟨_, _, _, h1, h2⟩ := h.at
    by_cases hn : n = 0
    · subst hn; rw [h0] at h2; cases h2
    · have := h1 0 (by omega); rw [h0] at this; cases this
  refine ⟨h.1, h.2.at_block ?_⟩
  rw [Below.heap_setCell _ _ _ _ hne, Below.heap_setCell _ _ _ _ hne]

theorem Lent.mono {B B' : Nat} {w : World} {b n cap : Nat} {l : List Nat} (h : Lent B w b n cap l) (hB : B' ≤ B) : Lent B' w b n cap l := ⟨h.1, h.2.mono hB⟩

theorem cell_grown {w w' : World} {b c o : Nat} {v : Value} (hg : w.grownBy w' (some b)) (h : w.cell? ⟨c, o, none⟩ = some v) (hne : c ≠ b) : w'.cell? ⟨c, o, none⟩ = some v :=
  (hg.cell_far ⟨c, o, none⟩ (World.block_lt_of_cell? _ _ h) (fun e => hne (Option.some.inj e))).trans h

theorem New.old {B : Nat} {w w' : World} {v : Value} {l : List Nat} {b : Nat} (h : New B w v l) (hg : w.grownBy w' (some b)) (hb : b < B) : New B w' v l := by
  obtain ⟨hbd, ⟨rfl, rfl⟩ | ⟨c, N, f, rfl, hB, hN, hr, hf⟩⟩ := h
  · exact New.nil _ _
  · exact ⟨hbd, .inr ⟨c, N, f, rfl, hB, hN, hr.of_block (hg.block c hr.lt (fun e => by have := Option.some.inj e; omega)), hf⟩⟩

theorem Lent.grown {B : Nat} {w w' : World} {c n cap : Nat} {l : List Nat} {b : Nat} (h : Lent B w c n cap l) (hg : w.grownBy w' (some b)) (hb : c ≠ b) : Lent B w' c n cap l :=
  ⟨h.1, h.2.at_block (hg.block c h.at.2.1 (fun e => hb (Option.some.inj e)))⟩

theorem New.blk {B : Nat} {w : World} {ao : Option Addr} {n cap : Nat} {l : List Nat} (h : New B w (.slice ao n cap) l) : ∀ b, ao = some ⟨b, 0, none⟩ → b < w.heap.size := by
  rintro b rfl
  exact (New.lt h).1

end Go.Proofs.YthijnnififodjaaDoor
