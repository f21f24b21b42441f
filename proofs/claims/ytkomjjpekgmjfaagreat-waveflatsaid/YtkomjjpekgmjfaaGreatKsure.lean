/- surely of limb: Lehmer's strides by the top words; wordDivisor. -/
import Derived.Test.YtkomjjpekgmjfaaGreatGak
namespace Go.Proofs.YtkomjjpekgmjfaaGreat
open Go.RowKit
set_option maxRecDepth 100000 in
set_option maxHeartbeats 1000000 in
theorem wordDivisor_any (a b : Nat) (w : World) (ha : a < 18446744073709551616) (hb : b < 18446744073709551616) :
  Calls Tryz.prog 147 #[.int .u64 (a : Int), .int .u64 (b : Int)] w fun e w' => e = .returned (.int .u64 ((Nat.gcd a b : Nat) : Int)) ∧ ∃ k, w' = w.drewN k := by
 obtain ⟨g, hg⟩ : ∃ g, g = Nat.gcd a b := ⟨_, rfl⟩
 have HG : Hid (g = Nat.gcd a b) := hg
 rw [← hg]
 clear hg
 go_enter Tryz.func147, Tryz.ntmps147
 go_wp2
 go_loopw [0, 1] (fun va vb wr => ∃ x y k : Nat, x < 18446744073709551616 ∧ y < 18446744073709551616 ∧ va = .int .u64 (x : Int) ∧ vb = .int .u64 (y : Int) ∧ Hid (g = Nat.gcd x y) ∧ wr = w.drewN k) (fun _ vb _ => (intOf vb).toNat)
 case atStart => exact ⟨a, b, 0, ha, hb, rfl, rfl, HG.out, rfl⟩
 case round =>
  obtain ⟨x, y, k, hx, hy, rfl, rfl, hg, rfl⟩ := hrel
  by_cases h0 : y = 0
  ·
   subst h0
   go_wp2
   go_ret
   exact ⟨ret_u64 (by rw [hg.out, Nat.gcd_zero_right]), k, rfl⟩
  ·
   have h1 : ((y : Int) == 0) = false := by simp; omega
   have h2 : ¬ (y : Int) = 0 := by omega
   have h3 : 0 < y := by omega
   go_wp2
   go_quiet (fail)
   go_wp2
   go_roundw
   case rel =>
    refine ⟨y, x % y, k + nq, hy, Nat.lt_of_le_of_lt (Nat.mod_le x y) hx, rfl, by simp, ?_, by rw [World.drewN_drewN]⟩
    show g = _
    rw [hg.out, Nat.gcd_comm y (x % y), Nat.gcd_comm x y, Nat.gcd_rec y x]
   case measure =>
    have := Nat.mod_lt x h3
    simp [intOf]
    omega
def SureIs (A B : Nat) (e : Ending) : Prop := ∃ (a b x0 y0 x1 y1 x2 y2 : Nat) (t : Bool), e = .returned (.agg #[.int .u64 (x0 : Int), .int .u64 (y0 : Int), .int .u64 (x1 : Int), .int .u64 (y1 : Int), .bool t]) ∧ Leh.St A B a b x0 y0 x1 y1 x2 y2 t
theorem push_modify {α : Type} (a : Array α) (x : α) (f : α → α) : (a.push x).modify a.size f = a.push (f x) := by
 apply Array.ext
 ·
  simp
 ·
  intro i h1 h2
  simp only [Array.getElem_modify, Array.getElem_push]
  by_cases h : i < a.size
  ·
   rw [dif_pos h, if_neg (by omega), dif_pos h]
  ·
   rw [dif_neg h, if_pos (by simp at h2; omega), dif_neg h]
theorem set_newest (w : World) (o : Array Value) (T : TypeId) (n b k : Nat) (v : Value) (hb : b = w.heap.size) :
  ((w.alloc (.cells o T)).drewN n).setCell ⟨b, k, none⟩ v = ((w.alloc (.cells (o.setIfInBounds k v) T)).drewN n) := by
 subst hb
 unfold World.setCell World.drewN World.alloc
 simp only [push_modify]
 rfl
set_option maxRecDepth 100000 in
set_option maxHeartbeats 2000000 in
theorem surely_any (A B : Nat) (w : World) (hA : A < 18446744073709551616) (hBA : B ≤ A) :
  Calls Tryz.prog 143 #[.int .u64 (A : Int), .int .u64 (B : Int)] w fun e w' => Kept w w' ∧ SureIs A B e := by
 go_enter Tryz.func143, Tryz.ntmps143
 go_wp2
 go_loopw [0, 1, 6, 7] (fun va vb vx vy wr => ∃ (a b x0 y0 x1 y1 x2 y2 k : Nat) (t : Bool), va = .int .u64 (a : Int) ∧ vb = .int .u64 (b : Int) ∧ vx = .int .u64 (x2 : Int) ∧ vy = .int .u64 (y2 : Int) ∧
   wr = ((w.alloc (.cells #[.int .u64 0, .int .u64 0, .int .u64 0, .int .u64 0, .bool false] 150)).alloc (.cells #[.int .u64 (x0 : Int), .int .u64 (y0 : Int), .int .u64 (x1 : Int), .int .u64 (y1 : Int), .bool t] 150)).drewN k ∧
   Hid (Leh.St A B a b x0 y0 x1 y1 x2 y2 t)) (fun _ vb _ _ _ => (intOf vb).toNat)
 case atStart => exact ⟨A, B, 0, 0, 1, 0, 0, 1, 0, false, rfl, rfl, rfl, rfl, rfl, .inl ⟨rfl, rfl, rfl, rfl, rfl, rfl, rfl, rfl, rfl⟩⟩
 case round =>
  obtain ⟨a, b, x0, y0, x1, y1, x2, y2, k, t, rfl, rfl, rfl, rfl, rfl, hst⟩ := hrel
  obtain ⟨hx0, hy0, hx1, hy1, hx2, hy2, hy2', ha, hba, hsum⟩ := Leh.st_bounds hA hBA hst.out
  by_cases hc : y2 ≤ b ∧ y1 + y2 + b ≤ a
  ·
   obtain ⟨hc1, hc2⟩ := hc
   have hb0 : 0 < b := by omega
   have hb1 : ¬ (b : Int) = 0 := by omega
   have hb2 : ((b : Int) == 0) = false := by simp; omega
   have hon := Leh.st_next hBA hst.out hc1 hc2
   have hbn := Leh.st_bounds hA hBA (.inr hon)
   obtain ⟨q, hq⟩ : ∃ q, q = a / b := ⟨_, rfl⟩
   rw [← hq] at hon hbn
   have hqi : (a : Int) / (b : Int) = (q : Int) := by rw [hq]; rfl
   have hqa : q ≤ a := by rw [hq]; exact Nat.div_le_self a b
   have hwq : IntKind.u64.wrap (q : Int) = (q : Int) := by rw [IntKind.wrap_u64]; omega
   obtain ⟨m1, hm1⟩ : ∃ m, m = q * x2 := ⟨_, rfl⟩
   obtain ⟨m2, hm2⟩ : ∃ m, m = q * y2 := ⟨_, rfl⟩
   rw [← hm1, ← hm2] at hon hbn
   have hmi1 : (q : Int) * (x2 : Int) = (m1 : Int) := by rw [hm1]; simp
   have hmi2 : (q : Int) * (y2 : Int) = (m2 : Int) := by rw [hm2]; simp
   have hbb := hbn.2.2.2.2.2.2.1
   have hbx := hbn.2.2.2.2.1
   have HON : Hid (Leh.On A B b (a % b) x1 y1 x2 y2 (x1 + m1) (y1 + m2) (!t)) := hon
   have hw0 : IntKind.u64.wrap ((a : Int) - (b : Int)) = (a : Int) - (b : Int) := by rw [IntKind.wrap_u64]; omega
   have hw1 : IntKind.u64.wrap ((y1 : Int) + (y2 : Int)) = (y1 : Int) + (y2 : Int) := by rw [IntKind.wrap_u64]; omega
   have hw2 : IntKind.u64.wrap (m1 : Int) = (m1 : Int) := by rw [IntKind.wrap_u64]; omega
   have hw3 : IntKind.u64.wrap (m2 : Int) = (m2 : Int) := by rw [IntKind.wrap_u64]; omega
   have hw4 : IntKind.u64.wrap ((x1 : Int) + (m1 : Int)) = (x1 : Int) + (m1 : Int) := by rw [IntKind.wrap_u64]; omega
   have hw5 : IntKind.u64.wrap ((y1 : Int) + (m2 : Int)) = (y1 : Int) + (m2 : Int) := by rw [IntKind.wrap_u64]; omega
   have hcm : (y1 : Int) + (y2 : Int) ≤ (a : Int) - (b : Int) := by omega
   clear hon hbn hq hm1 hm2 hsum hbb hbx hx0 hy0 hx2
   have hrm : (a : Int) % (b : Int) = ((a % b : Nat) : Int) := by simp
   have hrm2 : a % b < b := Nat.mod_lt _ hb0
   obtain ⟨rm, hrme⟩ : ∃ rm, rm = a % b := ⟨_, rfl⟩
   rw [← hrme] at hrm hrm2
   have HRM : Hid (rm = a % b) := hrme
   have hwr : IntKind.u64.wrap (rm : Int) = (rm : Int) := by rw [IntKind.wrap_u64]; omega
   clear hrme
   go_wp2
   go_quiet (fail)
   go_wp2
   go_roundw
   case rel =>
    have h9 := HON.out
    rw [← HRM.out] at h9
    refine ⟨b, rm, x1, y1, x2, y2, x1 + m1, y1 + m2, k + nq, !t, rfl, by first | rfl | (simp; exact hrm), by simp, by simp, ?_, .inr h9⟩
    rw [set_newest _ _ _ _ _ _ _ (by simp), set_newest _ _ _ _ _ _ _ (by simp), set_newest _ _ _ _ _ _ _ (by simp), set_newest _ _ _ _ _ _ _ (by simp), set_newest _ _ _ _ _ _ _ (by simp)]
    rfl
   case measure => simp [intOf]; omega
  ·
   have HC : Hid (Leh.St A B a b x0 y0 x1 y1 x2 y2 t) := hst.out
   have fin : ∀ W : World, W = W → True := fun _ _ => trivial
   by_cases hc1 : y2 ≤ b
   ·
    have hc2 : ¬ (y1 : Int) + (y2 : Int) ≤ (a : Int) - (b : Int) := by omega
    have hw0 : IntKind.u64.wrap ((a : Int) - (b : Int)) = (a : Int) - (b : Int) := by rw [IntKind.wrap_u64]; omega
    have hw1 : IntKind.u64.wrap ((y1 : Int) + (y2 : Int)) = (y1 : Int) + (y2 : Int) := by rw [IntKind.wrap_u64]; have := hsum (by omega); omega
    clear hc fin hsum
    go_wp2
    exact bodyPost_ret (v := .agg #[.int .u64 (x0 : Int), .int .u64 (y0 : Int), .int .u64 (x1 : Int), .int .u64 (y1 : Int), .bool t]) (by simp [results, Tryz.results143, go_sem]) rfl ⟨(((((((((Kept.refl w).alloc _).alloc _).drewN k).setCell (Nat.le_refl _) _).setCell (Nat.le_refl _) _).setCell (Nat.le_refl _) _).setCell (Nat.le_refl _) _).setCell (Nat.le_refl _) _), a, b, x0, y0, x1, y1, x2, y2, t, rfl, HC.out⟩
   ·
    clear hc fin hsum
    go_wp2
    exact bodyPost_ret (v := .agg #[.int .u64 (x0 : Int), .int .u64 (y0 : Int), .int .u64 (x1 : Int), .int .u64 (y1 : Int), .bool t]) (by simp [results, Tryz.results143, go_sem]) rfl ⟨(((((((((Kept.refl w).alloc _).alloc _).drewN k).setCell (Nat.le_refl _) _).setCell (Nat.le_refl _) _).setCell (Nat.le_refl _) _).setCell (Nat.le_refl _) _).setCell (Nat.le_refl _) _), a, b, x0, y0, x1, y1, x2, y2, t, rfl, HC.out⟩
end Go.Proofs.YtkomjjpekgmjfaaGreat
