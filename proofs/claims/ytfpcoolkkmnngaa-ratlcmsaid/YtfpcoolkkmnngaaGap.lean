/- shuntref02.Faults: what a list of fractions is refused for. shuntref02.Faults: what a list of fractions is refused for, to the number. shuntref02.Lcm: of every list of fractions. -/
import Derived.Test.YtfpcoolkkmnngaaFfault
import Derived.Test.YtfpcoolkkmnngaaGao
import Derived.Test.YtfpcoolkkmnngaaGam
import Derived.Test.YtfpcoolkkmnngaaGaj
import Derived.Test.YtfpcoolkkmnngaaGah
namespace Go.Proofs.Ytfpcoolkkmnngaa
open Go.RowKit
namespace F

set_option maxHeartbeats 4000000 in
theorem Faults_any (ao : Option Addr) (b off N cap : Nat) (w : World) (m n : Nat → Bool) (aa ad : Nat → Option Addr) (ka ca kd cd : Nat → Nat) (a d : Nat → List Nat) (hao : 0 < N → ao = some ⟨b, off, none⟩) (hN : N ≤ 1000000) (H : RatAll w b off N m n aa ad ka ca kd cd a d) :
    Calls Try.prog 6 #[.slice ao N cap] w fun e w' => Kept w w' ∧ ∃ c : Int, e = .returned (.int .i64 c) ∧ ((c = 0 ∧ ∀ i, i < N → RatR (m i) (n i) (a i) (d i)) ∨ ((c = 10 ∨ c = 20) ∧ ∃ i, i < N ∧ ¬ RatR (m i) (n i) (a i) (d i))) := by
  have HH : Hid (RatAll w b off N m n aa ad ka ca kd cd a d ∧ (0 < N → ao = some ⟨b, off, none⟩)) := ⟨H, hao⟩
  clear H hao
  go_enter Try.func6, Try.ntmps6
  go_wp2_with fail
  go_loopw [3, 4] (fun ve vi wr => ∃ (k : Nat) (c : Int), k ≤ N ∧ vi = .int .i64 (k : Int) ∧ ve = .int .i64 c ∧ Hid (Kept w wr ∧ ((c = 0 ∧ ∀ i, i < k → RatR (m i) (n i) (a i) (d i)) ∨ (c = 20 ∧ ∃ i, i < k ∧ ¬ RatR (m i) (n i) (a i) (d i))))) (fun _ vi _ => N - (intOf vi).toNat)
  case atStart => exact ⟨0, 0, Nat.zero_le _, rfl, rfl, Kept.refl w, .inl ⟨rfl, fun i hi => by omega⟩⟩
  case round =>
    obtain ⟨k, c, hk, rfl, rfl, HK⟩ := hrel
    by_cases hlt : k < N
    · obtain ⟨⟨h0, h1, h2, h3⟩, h4⟩ := HH.out.1 k hlt
      obtain rfl := HH.out.2 (by omega)
      have h0 := cell_kept HK.out.1 h0
      have h1 := cell_kept HK.out.1 h1
      have h2 := cell_kept HK.out.1 h2
      have h3 := cell_kept HK.out.1 h3
      have H4 := hid' h4
      clear h4
      go_wp2_with fail
      refine (Fault_any (m k) (n k) (aa k) (ad k) (ka k) (ca k) (kd k) (cd k) (a k) (d k) _ (H4.out.1.kept HK.out.1) (H4.out.2.1.kept HK.out.1) H4.out.2.2.1 H4.out.2.2.2).mono ?_
      rintro e w1 ⟨hk1, f, rfl, hf⟩
      have HK1 : Hid (Kept w w1) := HK.out.1.trans hk1
      clear hk1 h0 h1 h2 h3
      rcases hf with ⟨rfl, hf⟩ | ⟨rfl, hf⟩ | ⟨rfl, hf⟩
      · have HF := hid' hf
        clear hf
        go_wp2
        go_ret
        exact ⟨HK1.out, 10, rfl, .inr ⟨.inl rfl, k, hlt, fun h => HF.out ⟨h.ra, h.rd⟩⟩⟩
      · have HF := hid' hf
        clear hf
        go_wp2_with fail
        go_roundw
        case rel => exact ⟨k + 1, 20, by omega, by go_num, rfl, HK1.out, .inr ⟨rfl, k, by omega, HF.out.2.2⟩⟩
        case measure => simp [intOf]; omega
      · have HF := hid' hf
        clear hf
        go_wp2_with fail
        go_roundw
        case rel => exact ⟨k + 1, c, by omega, by go_num, rfl, HK1.out, HK.out.2.imp (fun h => ⟨h.1, fun i hi => if e : i = k then by rw [e]; exact HF.out else h.2 i (by omega)⟩) (fun h => ⟨h.1, h.2.imp fun i hi => ⟨by omega, hi.2⟩⟩)⟩
        case measure => simp [intOf]; omega
    · go_wp2
      go_ret
      refine ⟨HK.out.1, c, rfl, HK.out.2.imp (fun h => ⟨h.1, fun i hi => h.2 i (by omega)⟩) (fun h => ⟨.inr h.1, h.2.imp fun i hi => ⟨by omega, hi.2⟩⟩)⟩

end F
end Go.Proofs.Ytfpcoolkkmnngaa

namespace Go.Proofs.Ytfpcoolkkmnngaa
open Go.RowKit
namespace F

theorem notRat {m n : Bool} {a d : List Nat} (h : R m a ∧ R n d) (h' : ¬ RatR m n a d) : ¬ (0 < M.int n d ∧ Nat.gcd (M.val a) (M.val d) = 1) := fun q => h' ⟨h.1, h.2, q.1, q.2⟩

set_option maxHeartbeats 4000000 in
theorem Faults_x (ao : Option Addr) (b off N cap : Nat) (w : World) (m n : Nat → Bool) (aa ad : Nat → Option Addr) (ka ca kd cd : Nat → Nat) (a d : Nat → List Nat) (hao : 0 < N → ao = some ⟨b, off, none⟩) (hN : N ≤ 1000000) (H : RatAll w b off N m n aa ad ka ca kd cd a d) :
    Calls Try.prog 6 #[.slice ao N cap] w fun e w' => Kept w w' ∧ ∃ c : Int, e = .returned (.int .i64 c) ∧ Refused N m n a d c := by
  have HH : Hid (RatAll w b off N m n aa ad ka ca kd cd a d ∧ (0 < N → ao = some ⟨b, off, none⟩)) := ⟨H, hao⟩
  clear H hao
  go_enter Try.func6, Try.ntmps6
  go_wp2_with fail
  go_loopw [3, 4] (fun ve vi wr => ∃ (k : Nat) (c : Int), k ≤ N ∧ vi = .int .i64 (k : Int) ∧ ve = .int .i64 c ∧ Hid (Kept w wr ∧ (∀ i, i < k → R (m i) (a i) ∧ R (n i) (d i)) ∧ ((c = 0 ∧ ∀ i, i < k → RatR (m i) (n i) (a i) (d i)) ∨ (c = 20 ∧ ∃ i, i < k ∧ ¬ RatR (m i) (n i) (a i) (d i))))) (fun _ vi _ => N - (intOf vi).toNat)
  case atStart => exact ⟨0, 0, Nat.zero_le _, rfl, rfl, Kept.refl w, fun i hi => by omega, .inl ⟨rfl, fun i hi => by omega⟩⟩
  case round =>
    obtain ⟨k, c, hk, rfl, rfl, HK⟩ := hrel
    by_cases hlt : k < N
    · obtain ⟨⟨h0, h1, h2, h3⟩, h4⟩ := HH.out.1 k hlt
      obtain rfl := HH.out.2 (by omega)
      have h0 := cell_kept HK.out.1 h0
      have h1 := cell_kept HK.out.1 h1
      have h2 := cell_kept HK.out.1 h2
      have h3 := cell_kept HK.out.1 h3
      have H4 := hid' h4
      clear h4
      go_wp2_with fail
      refine (Fault_any (m k) (n k) (aa k) (ad k) (ka k) (ca k) (kd k) (cd k) (a k) (d k) _ (H4.out.1.kept HK.out.1) (H4.out.2.1.kept HK.out.1) H4.out.2.2.1 H4.out.2.2.2).mono ?_
      rintro e w1 ⟨hk1, f, rfl, hf⟩
      have HK1 : Hid (Kept w w1) := HK.out.1.trans hk1
      clear hk1 h0 h1 h2 h3
      rcases hf with ⟨rfl, hf⟩ | ⟨rfl, hf⟩ | ⟨rfl, hf⟩
      · have HF := hid' hf
        clear hf
        go_wp2
        go_ret
        exact ⟨HK1.out, 10, rfl, .inl ⟨rfl, k, hlt, HF.out⟩⟩
      · have HF := hid' hf
        clear hf
        go_wp2_with fail
        go_roundw
        case rel => exact ⟨k + 1, 20, by omega, by go_num, rfl, HK1.out, fun i hi => if h : i = k then by rw [h]; exact ⟨HF.out.1, HF.out.2.1⟩ else HK.out.2.1 i (by omega), .inr ⟨rfl, k, by omega, HF.out.2.2⟩⟩
        case measure => simp [intOf]; omega
      · have HF := hid' hf
        clear hf
        go_wp2_with fail
        go_roundw
        case rel => exact ⟨k + 1, c, by omega, by go_num, rfl, HK1.out, fun i hi => if h : i = k then by rw [h]; exact ⟨HF.out.ra, HF.out.rd⟩ else HK.out.2.1 i (by omega), HK.out.2.2.imp (fun h => ⟨h.1, fun i hi => if e : i = k then by rw [e]; exact HF.out else h.2 i (by omega)⟩) (fun h => ⟨h.1, h.2.imp fun i hi => ⟨by omega, hi.2⟩⟩)⟩
        case measure => simp [intOf]; omega
    · go_wp2
      go_ret
      have hR : ∀ i, i < N → R (m i) (a i) ∧ R (n i) (d i) := fun i hi => HK.out.2.1 i (by omega)
      refine ⟨HK.out.1, c, rfl, .inr ⟨hR, HK.out.2.2.symm.imp (fun h => ⟨h.1, h.2.imp fun i hi => ⟨by omega, notRat (hR i (by omega)) hi.2⟩⟩) (fun h => ⟨h.1, fun i hi => ⟨(h.2 i (by omega)).pos, (h.2 i (by omega)).low⟩⟩)⟩⟩

end F
end Go.Proofs.Ytfpcoolkkmnngaa

namespace Go.Proofs.Ytfpcoolkkmnngaa
open Go.RowKit
namespace F

/-- The variable at block p holds a number of the reference's of these two. -/
def NRow (w : World) (p : Nat) (x0 x1 : Value) : Prop := w.rowIs p 56 2 (fun i => if i = 0 then x0 else x1)
theorem NRow.alloc (w : World) (x0 x1 : Value) : NRow (w.alloc (.cells #[x0, x1] 56)) w.heap.size x0 x1 :=
  World.rowIs_alloc w #[x0, x1] 56 _ (fun i hi => by
    match i, hi with
    | 0, _ => rfl
    | 1, _ => rfl)
section
variable {w w' : World} {p q : Nat} {x0 x1 : Value}
theorem NRow.lt (h : NRow w p x0 x1) : p < w.heap.size := World.rowIs.lt h
theorem NRow.c0 (h : NRow w p x0 x1) : w.cell? ⟨p, 0, none⟩ = some x0 := World.rowIs.cell h (i := 0) (by omega)
theorem NRow.c1 (h : NRow w p x0 x1) : w.cell? ⟨p, 1, none⟩ = some x1 := World.rowIs.cell h (i := 1) (by omega)
theorem NRow.fz (h : NRow w p x0 x1) (o : Nat) : w.frozen? ⟨p, o, none⟩ = false := World.rowIs.frozen h o
theorem NRow.kept (h : NRow w p x0 x1) (k : Kept w w') : NRow w' p x0 x1 := World.rowIs.of_block h (k.block p h.lt)
theorem NRow.set2 (h : NRow w p x0 x1) (y0 y1 : Value) : NRow ((w.setCell ⟨p, 0, none⟩ y0).setCell ⟨p, 1, none⟩ y1) p y0 y1 :=
  ((World.rowIs.set (World.rowIs.set h 0 y0) 1 y1).congr fun i hi => by
    match i, hi with
    | 0, _ => rfl
    | 1, _ => rfl)
theorem ZBox.farN (h : ZBox w p) (hne : ¬ p = q) (x y : Value) : ZBox ((w.setCell ⟨q, 0, none⟩ x).setCell ⟨q, 1, none⟩ y) p := h.far hne x y
end

theorem n_wide {w : World} {s : Bool} {ao : Option Addr} {k c : Nat} {z : Int} (h : D.NIs w s (.slice ao k c) z) (hk : 72 < (k + 1) / 2) : M.W72 ≤ z.natAbs := by
  obtain ⟨l, h1, h2, rfl⟩ := h
  have e := h1.len
  subst e
  rw [D.natAbs_int]
  exact D.wide_of h2.tr hk

set_option maxRecDepth 100000 in
set_option maxHeartbeats 8000000 in
theorem RLcm_any (ao : Option Addr) (b off N cap : Nat) (w : World) (m n : Nat → Bool) (aa ad : Nat → Option Addr) (ka ca kd cd : Nat → Nat) (a d : Nat → List Nat) (hao : 0 < N → ao = some ⟨b, off, none⟩) (hN : N ≤ 1000000) (H : RatAll w b off N m n aa ad ka ca kd cd a d) :
    Calls Try.prog 13 #[.slice ao N cap] w fun e w' => Kept w w' ∧ ∃ c : Int, Refused N m n a d c ∧ ((c ≠ 0 ∧ e = .returned (.tuple #[.agg #[.bool false, .slice none 0 0], .int .i64 c])) ∨ (c = 0 ∧ LcmIs w.heap.size w' e (lcmOf (fun i => M.val (d i)) N))) := by
  have HH : Hid (RatAll w b off N m n aa ad ka ca kd cd a d ∧ (0 < N → ao = some ⟨b, off, none⟩)) := ⟨H, hao⟩
  clear H hao
  go_enter Try.func13, Try.ntmps13
  go_wp2_with fail
  refine (Faults_x ao b off N cap _ m n aa ad ka ca kd cd a d HH.out.2 hN (HH.out.1.kept ((Kept.refl w).alloc _))).mono ?_
  rintro e w1 ⟨hk1, c, rfl, hc⟩
  have HC := hid' hc
  have Z2 := (ZBox.alloc w).kept hk1
  have HK1 : Hid (Kept w w1) := ((Kept.refl w).alloc _).trans hk1
  clear hk1 hc
  by_cases hc0 : c = 0
  · subst hc0
    have HR : Hid (∀ i, i < N → RatR (m i) (n i) (a i) (d i)) := fun i hi => by
      rcases HC.out with ⟨h, _⟩ | ⟨h1, ⟨h, _⟩ | ⟨_, h⟩⟩
      · exact absurd h (by decide)
      · exact absurd h (by decide)
      · exact ⟨(h1 i hi).1, (h1 i hi).2, (h i hi).1, (h i hi).2⟩
    have HD : Hid (∀ i, i < N → 0 < M.val (d i)) := fun i hi => (HR.out i hi).vpos
    go_wp2_with fail
    refine (D.small_any 1 _ (by omega)).mono ?_
    rintro e w2 ⟨hk2, ao1, k1, c1, l1, rfl, s1, t1, v1, e1⟩
    have Z2 := hid' (Z2.kept hk2)
    have HK2 := hid' (HK1.out.trans hk2)
    have HN1 : Hid (D.NIs w2 false (.slice ao1 k1 c1) ((1 : Nat) : Int) ∧ k1 ≤ 144) := ⟨⟨l1, s1, ⟨s1.bd, t1, fun _ => rfl⟩, by rw [← v1]; simp [D.int]⟩, by have := s1.len; omega⟩
    clear hk2 s1 t1 v1 HK1 e1
    go_upto_region 6 with fail
    have hI := NRow.alloc w2 (.bool false) (.slice ao1 k1 c1)
    have hK := (Kept.refl w2).alloc (.cells #[.bool false, .slice ao1 k1 c1] 56)
    generalize w2.alloc (.cells #[.bool false, .slice ao1 k1 c1] 56) = W at hI hK ⊢
    have HP : Hid (w.heap.size < w2.heap.size ∧ w.heap.size ≤ w.heap.size) := ⟨Nat.lt_of_lt_of_le Z2.out.lt (Nat.le_refl _), Nat.le_refl _⟩
    obtain ⟨p5, hp5⟩ : ∃ p, p = w2.heap.size := ⟨_, rfl⟩
    obtain ⟨p2, hp2⟩ : ∃ p, p = w.heap.size := ⟨_, rfl⟩
    rw [← hp5] at hI ⊢
    rw [← hp2] at ⊢
    have HP : Hid (p2 = w.heap.size ∧ p2 < p5) := ⟨hp2, by have := HP.out; omega⟩
    have h25 : ¬ p2 = p5 := by have := HP.out.2; omega
    have h52 : ¬ p5 = p2 := by have := HP.out.2; omega
    have HP5 : Hid (w.heap.size ≤ p5) := by have := HP.out; show _ ≤ _; omega
    have HP2 : Hid (w.heap.size ≤ p2) := by have := HP.out; show _ ≤ _; omega
    go_loopw [6] (fun vi wr => ∃ (k : Nat) (s : Bool) (ao1 : Option Addr) (k1 c1 : Nat), k ≤ N ∧ vi = .int .i64 (k : Int) ∧ Hid (Kept w wr ∧ ZBox wr p2 ∧ NRow wr p5 (.bool s) (.slice ao1 k1 c1) ∧ D.NIs wr s (.slice ao1 k1 c1) (lcmOf (fun i => M.val (d i)) k : Nat) ∧ k1 ≤ 144)) (fun vi _ => N - (intOf vi).toNat)
    case atStart => exact ⟨0, false, ao1, k1, c1, Nat.zero_le _, rfl, HK2.out.trans hK, by rw [HP.out.1]; exact Z2.out.kept hK, hI, HN1.out.1.kept hK, HN1.out.2⟩
    case round =>
      clear hI hK hp5 hp2 HN1 HK2 Z2
      obtain ⟨k, s, ao1, k1, c1, hk, rfl, HI⟩ := hrel
      by_cases hlt : k < N
      · obtain ⟨⟨h0, h1, h2, h3⟩, h4⟩ := HH.out.1 k hlt
        obtain rfl := HH.out.2 (by omega)
        have hb := World.block_lt_of_cell? _ _ h0
        have hb5 : ¬ p5 = b := by have := HP.out; simp at hb; omega
        have h0 := cell_kept HI.out.1 h0
        have h1 := cell_kept HI.out.1 h1
        have h2 := cell_kept HI.out.1 h2
        have h3 := cell_kept HI.out.1 h3
        have H4 := hid' h4
        have g0 := HI.out.2.2.1.c0
        have g1 := HI.out.2.2.1.c1
        have HPL : Hid ((0 : Int) < (lcmOf (fun i => M.val (d i)) k : Nat)) := by have := lcmOf_pos (d := fun i => M.val (d i)) (k := k) (fun i hi => HD.out i (by omega)); show _ < _; omega
        have HLd : Hid ((d k).length ≤ 72) := (HR.out k hlt).rd.1
        have HE : Hid (((Nat.lcm ((lcmOf (fun i => M.val (d i)) k : Nat) : Int).natAbs (M.int (n k) (d k)).natAbs : Nat) : Int) = (lcmOf (fun i => M.val (d i)) (k + 1) : Nat)) := by
          show _ = _
          rw [M.natAbs_int, Int.natAbs_natCast]; rfl
        clear h4 hb
        go_upto_region 8 with fail
        have KT : Kept wr wr.drew := (Kept.refl _).drew
        refine wp_region_held_drew (S := fun w' => w'.cell? ⟨b, off + k * 4 + 2, none⟩ = some (.bool (n k)) ∧ w'.cell? ⟨b, off + k * 4 + 3, none⟩ = some (.slice (ad k) (kd k) (cd k))) (by kernel_rfl) ⟨cell_kept KT h2, cell_kept KT h3⟩ (fun hHeld => ?_)
        generalize wr.drew = Wd at KT hHeld ⊢
        have f0 := cell_kept KT g0
        have f1 := cell_kept KT g1
        refine wpAnyH_take (i := 1) (v := ?vlx1x1) rfl (by kernel_rfl) (by kernel_rfl) (by kernel_rfl) (fun _ _ _ h => h) (Or.inl ⟨by rfl, ?ylx1x1⟩) hHeld ?rlx1x1
        case ylx1x1 =>
          intro w' hSw
          obtain ⟨hSw0, hSw1⟩ := hSw
          go_simp
          with_reducible rfl
        case rlx1x1 =>
        refine wpAnyH_take (i := 2) (v := ?vlx2x2) rfl (by kernel_rfl) (by kernel_rfl) (by kernel_rfl) (fun _ _ _ h => h) (Or.inl ⟨by rfl, ?ylx2x2⟩) hHeld ?rlx2x2
        case ylx2x2 =>
          intro w' hSw
          obtain ⟨hSw0, hSw1⟩ := hSw
          go_simp
          with_reducible rfl
        case rlx2x2 =>
        refine wpAnyH_take (i := 3) (v := ?vlx3x3) rfl (by kernel_rfl) (by kernel_rfl) (by kernel_rfl) (fun _ _ _ h => h) (Or.inl ⟨by rfl, ?ylx3x3⟩) hHeld ?rlx3x3
        case ylx3x3 =>
          intro w' hSw
          obtain ⟨hSw0, hSw1⟩ := hSw
          go_simp
          with_reducible rfl
        case rlx3x3 =>
        refine wpAnyH_take (i := 4) (v := ?vlx4x4) rfl (by kernel_rfl) (by kernel_rfl) (by kernel_rfl) (fun _ _ _ h => h) (Or.inl ⟨by rfl, ?ylx4x4⟩) hHeld ?rlx4x4
        case ylx4x4 =>
          intro w' hSw
          obtain ⟨hSw0, hSw1⟩ := hSw
          go_simp
          with_reducible rfl
        case rlx4x4 =>
        refine wpAnyH_take (i := 5) (v := ?vlx5x5) rfl (by kernel_rfl) (by kernel_rfl) (by kernel_rfl) (fun _ _ _ h => h) (Or.inl ⟨by rfl, ?ylx5x5⟩) hHeld ?rlx5x5
        case ylx5x5 =>
          intro w' hSw
          obtain ⟨hSw0, hSw1⟩ := hSw
          go_simp
          with_reducible rfl
        case rlx5x5 =>
        refine wpAnyH_ready (rs := [0, 6]) (by kernel_rfl) (by simp) ?_
        refine AllReadyH.cons rfl (fun K hK => ?_) ?_
        · go_simp
          refine hK.out _ _ ⟨cell_kept KT h2, cell_kept KT h3⟩ (fun hHeld => ?_)
          clear hK K
          refine wpAnyH_ready (rs := [6]) (by kernel_rfl) (by simp) ?_
          refine AllReadyH.cons rfl (fun K hK => ?_) AllReadyH.nil
          go_simp
          refine (D.Take_any (n k) (ad k) (kd k) (cd k) (d k) _ (H4.out.2.1.kept (HI.out.1.trans KT)) (by have := (HR.out k hlt).rd.1; omega)).mono ?_
          rintro e w3 ⟨hk3, s3, a3, k3, c3, rfl, n3, l3⟩
          have KT := KT.trans hk3
          have HT := hid' (And.intro n3 l3)
          clear hk3 n3 l3
          refine hK.out _ _ ⟨cell_kept KT h2, cell_kept KT h3⟩ (fun hHeld => ?_)
          clear hK K
          have f0 := cell_kept KT g0
          have f1 := cell_kept KT g1
          refine wpAnyH_ready (rs := [7]) (by kernel_rfl) (by simp) ?_
          refine AllReadyH.cons rfl (fun K hK => ?_) AllReadyH.nil
          go_simp
          refine (Multiple_any s s3 ao1 a3 k1 c1 k3 c3 _ _ _ (HI.out.2.2.2.1.kept KT) HT.out.1 (by have := HI.out.2.2.2.2; omega) (by have h1 := HT.out.2; have h2 := (HR.out k hlt).rd.1; omega) HPL.out (HR.out k hlt).pos).mono ?_
          rintro e w4 ⟨hk4, s4, a4, k4, c4, rfl, n4, l4⟩
          have KT := KT.trans hk4
          have HM := hid' (And.intro n4 l4)
          clear hk4 n4 l4 f0 f1
          refine hK.out _ _ ⟨cell_kept KT h2, cell_kept KT h3⟩ (fun hHeld => ?_)
          clear hK K
          have HB := hid' (And.intro (HI.out.2.1.kept KT) (HI.out.2.2.1.kept KT))
          have f0 := HB.out.2.c0
          have f1 := HB.out.2.c1
          have f2 := HB.out.2.fz 0
          have f3 := HB.out.2.fz 1
          refine wpAnyH_ready (rs := [8]) (by kernel_rfl) (by simp) ?_
          refine AllReadyH.cons rfl (fun K hK => ?_) AllReadyH.nil
          go_simp
          refine hK.out _ _ ⟨by rw [World.cell?_setCell_far _ _ _ _ hb5, World.cell?_setCell_far _ _ _ _ hb5]; exact cell_kept KT h2, by rw [World.cell?_setCell_far _ _ _ _ hb5, World.cell?_setCell_far _ _ _ _ hb5]; exact cell_kept KT h3⟩ (fun _ => ?_)
          clear hK K hHeld
          have hI' := HB.out.2.set2 (.bool s4) (.slice a4 k4 c4)
          have hZ' := ZBox.farN HB.out.1 h25 (.bool s4) (.slice a4 k4 c4)
          have hN' := D.NIs.box2 HM.out.1 f0 f1 (.bool s4) (.slice a4 k4 c4)
          have hK' := ((HI.out.1.trans KT).setCell (p := ⟨p5, 0, none⟩) HP5.out (.bool s4)).setCell (p := ⟨p5, 1, none⟩) HP5.out (.slice a4 k4 c4)
          generalize (w4.setCell ⟨p5, 0, none⟩ (.bool s4)).setCell ⟨p5, 1, none⟩ (.slice a4 k4 c4) = W5 at hI' hZ' hN' hK' ⊢
          have H5 := hid' (And.intro hK' (And.intro hZ' (And.intro hI' hN')))
          clear f0 f1 f2 f3 hK' hZ' hN' hI' KT HB
          refine wpAnyH_done (by kernel_rfl) ?_ _
          have f0 := H5.out.2.2.1.c0
          have f1 := H5.out.2.2.1.c1
          clear h0 h1 h2 h3 g0 g1
          go_wp2_with fail
          refine (D.Length_any s4 a4 k4 c4 _ (by have h1 := HM.out.2; have h2 := HI.out.2.2.2.2; have h3 := (HR.out k hlt).rd.1; have h4 := HLd.out; have h5 := HT.out.2; omega)).mono ?_
          rintro e w6 ⟨hk6, rfl⟩
          have H6 := hid' (And.intro (H5.out.1.trans hk6) (And.intro (H5.out.2.1.kept hk6) (And.intro (H5.out.2.2.1.kept hk6) (H5.out.2.2.2.kept hk6))))
          clear hk6 f0 f1 H5
          by_cases h72 : 72 < (k4 + 1) / 2
          · have h72' : (72 : Int) < (((k4 + 1) / 2 : Nat) : Int) := by omega
            have HW : Hid (M.W72 ≤ lcmOf (fun i => M.val (d i)) (k + 1)) := by
              have h := n_wide H6.out.2.2.2 h72
              rw [HE.out, Int.natAbs_natCast] at h
              exact h
            generalize (((k4 + 1) / 2 : Nat) : Int) = q at *
            have q0 := H6.out.2.1.c0
            have q1 := H6.out.2.1.c1
            have q2 := H6.out.2.1.fz 0
            have q3 := H6.out.2.1.fz 1
            clear h72
            go_wp2
            exact bodyPost_ret (v := .tuple #[.agg #[.bool false, .slice none 0 0], .int .i64 13]) (by simp [results, Try.results13, go_sem, q0, q1]) rfl ⟨((H6.out.1.setCell HP2.out _).setCell HP2.out _), 0, HC.out, .inr ⟨rfl, .inr ⟨rfl, Nat.le_trans HW.out (lcmOf_le (d := fun i => M.val (d i)) (show k + 1 ≤ N by omega) HD.out)⟩⟩⟩
          · have h72' : ¬ (72 : Int) < (((k4 + 1) / 2 : Nat) : Int) := by omega
            have H7 : Hid (k4 ≤ 144) := by show _ ≤ _; omega
            generalize (((k4 + 1) / 2 : Nat) : Int) = q at *
            clear h72
            go_wp2_with fail
            go_roundw
            case rel => exact ⟨k + 1, s4, a4, k4, c4, by omega, by go_num, H6.out.1, H6.out.2.1, H6.out.2.2.1, by rw [← HE.out]; exact H6.out.2.2.2, H7.out⟩
            case measure => simp [intOf]; omega
        refine AllReadyH.cons rfl (fun K hK => ?_) AllReadyH.nil
        go_simp
        refine (D.Take_any (n k) (ad k) (kd k) (cd k) (d k) _ (H4.out.2.1.kept (HI.out.1.trans KT)) (by have := (HR.out k hlt).rd.1; omega)).mono ?_
        rintro e w3 ⟨hk3, s3, a3, k3, c3, rfl, n3, l3⟩
        have KT := KT.trans hk3
        have HT := hid' (And.intro n3 l3)
        clear hk3 n3 l3
        refine hK.out _ _ ⟨cell_kept KT h2, cell_kept KT h3⟩ (fun hHeld => ?_)
        clear hK K
        have f0 := cell_kept KT g0
        have f1 := cell_kept KT g1
        refine wpAnyH_ready (rs := [0]) (by kernel_rfl) (by simp) ?_
        refine AllReadyH.cons rfl (fun K hK => ?_) AllReadyH.nil
        go_simp
        refine hK.out _ _ ⟨cell_kept KT h2, cell_kept KT h3⟩ (fun hHeld => ?_)
        clear hK K
        refine wpAnyH_ready (rs := [7]) (by kernel_rfl) (by simp) ?_
        refine AllReadyH.cons rfl (fun K hK => ?_) AllReadyH.nil
        go_simp
        refine (Multiple_any s s3 ao1 a3 k1 c1 k3 c3 _ _ _ (HI.out.2.2.2.1.kept KT) HT.out.1 (by have := HI.out.2.2.2.2; omega) (by have h1 := HT.out.2; have h2 := (HR.out k hlt).rd.1; omega) HPL.out (HR.out k hlt).pos).mono ?_
        rintro e w4 ⟨hk4, s4, a4, k4, c4, rfl, n4, l4⟩
        have KT := KT.trans hk4
        have HM := hid' (And.intro n4 l4)
        clear hk4 n4 l4 f0 f1
        refine hK.out _ _ ⟨cell_kept KT h2, cell_kept KT h3⟩ (fun hHeld => ?_)
        clear hK K
        have HB := hid' (And.intro (HI.out.2.1.kept KT) (HI.out.2.2.1.kept KT))
        have f0 := HB.out.2.c0
        have f1 := HB.out.2.c1
        have f2 := HB.out.2.fz 0
        have f3 := HB.out.2.fz 1
        refine wpAnyH_ready (rs := [8]) (by kernel_rfl) (by simp) ?_
        refine AllReadyH.cons rfl (fun K hK => ?_) AllReadyH.nil
        go_simp
        refine hK.out _ _ ⟨by rw [World.cell?_setCell_far _ _ _ _ hb5, World.cell?_setCell_far _ _ _ _ hb5]; exact cell_kept KT h2, by rw [World.cell?_setCell_far _ _ _ _ hb5, World.cell?_setCell_far _ _ _ _ hb5]; exact cell_kept KT h3⟩ (fun _ => ?_)
        clear hK K hHeld
        have hI' := HB.out.2.set2 (.bool s4) (.slice a4 k4 c4)
        have hZ' := ZBox.farN HB.out.1 h25 (.bool s4) (.slice a4 k4 c4)
        have hN' := D.NIs.box2 HM.out.1 f0 f1 (.bool s4) (.slice a4 k4 c4)
        have hK' := ((HI.out.1.trans KT).setCell (p := ⟨p5, 0, none⟩) HP5.out (.bool s4)).setCell (p := ⟨p5, 1, none⟩) HP5.out (.slice a4 k4 c4)
        generalize (w4.setCell ⟨p5, 0, none⟩ (.bool s4)).setCell ⟨p5, 1, none⟩ (.slice a4 k4 c4) = W5 at hI' hZ' hN' hK' ⊢
        have H5 := hid' (And.intro hK' (And.intro hZ' (And.intro hI' hN')))
        clear f0 f1 f2 f3 hK' hZ' hN' hI' KT HB
        refine wpAnyH_done (by kernel_rfl) ?_ _
        have f0 := H5.out.2.2.1.c0
        have f1 := H5.out.2.2.1.c1
        clear h0 h1 h2 h3 g0 g1
        go_wp2_with fail
        refine (D.Length_any s4 a4 k4 c4 _ (by have h1 := HM.out.2; have h2 := HI.out.2.2.2.2; have h3 := (HR.out k hlt).rd.1; have h4 := HLd.out; have h5 := HT.out.2; omega)).mono ?_
        rintro e w6 ⟨hk6, rfl⟩
        have H6 := hid' (And.intro (H5.out.1.trans hk6) (And.intro (H5.out.2.1.kept hk6) (And.intro (H5.out.2.2.1.kept hk6) (H5.out.2.2.2.kept hk6))))
        clear hk6 f0 f1 H5
        by_cases h72 : 72 < (k4 + 1) / 2
        · have h72' : (72 : Int) < (((k4 + 1) / 2 : Nat) : Int) := by omega
          have HW : Hid (M.W72 ≤ lcmOf (fun i => M.val (d i)) (k + 1)) := by
            have h := n_wide H6.out.2.2.2 h72
            rw [HE.out, Int.natAbs_natCast] at h
            exact h
          generalize (((k4 + 1) / 2 : Nat) : Int) = q at *
          have q0 := H6.out.2.1.c0
          have q1 := H6.out.2.1.c1
          have q2 := H6.out.2.1.fz 0
          have q3 := H6.out.2.1.fz 1
          clear h72
          go_wp2
          exact bodyPost_ret (v := .tuple #[.agg #[.bool false, .slice none 0 0], .int .i64 13]) (by simp [results, Try.results13, go_sem, q0, q1]) rfl ⟨((H6.out.1.setCell HP2.out _).setCell HP2.out _), 0, HC.out, .inr ⟨rfl, .inr ⟨rfl, Nat.le_trans HW.out (lcmOf_le (d := fun i => M.val (d i)) (show k + 1 ≤ N by omega) HD.out)⟩⟩⟩
        · have h72' : ¬ (72 : Int) < (((k4 + 1) / 2 : Nat) : Int) := by omega
          have H7 : Hid (k4 ≤ 144) := by show _ ≤ _; omega
          generalize (((k4 + 1) / 2 : Nat) : Int) = q at *
          clear h72
          go_wp2_with fail
          go_roundw
          case rel => exact ⟨k + 1, s4, a4, k4, c4, by omega, by go_num, H6.out.1, H6.out.2.1, H6.out.2.2.1, by rw [← HE.out]; exact H6.out.2.2.2, H7.out⟩
          case measure => simp [intOf]; omega

      · have hkN : k = N := by omega
        subst hkN
        have g0 := HI.out.2.2.1.c0
        have g1 := HI.out.2.2.1.c1
        obtain ⟨l, hl1, hl2, hl3⟩ := HI.out.2.2.2.1
        have e1 := hl1.len
        subst e1
        have hp := lcmOf_pos HD.out
        have hs : s = false := by
          cases s
          · rfl
          · have : D.int true l ≤ 0 := by simp [D.int]
            omega
        subst hs
        have HL := hid' (And.intro hl1 (And.intro hl2 hl3))
        have H144 := hid' HI.out.2.2.2.2
        clear hl1 hl2 hl3 hp
        go_wp2_with fail
        refine (D.Give_any false ao1 c1 l _ HL.out.1 HL.out.2.1.tr (by have := H144.out; omega)).mono ?_
        rintro e w6 ⟨hk6, a6, k6, c6, l6, rfl, n6, t6, v6, e6⟩
        have hz := HI.out.2.1.kept hk6
        have HN6 : Hid (New w.heap.size w6 (.slice a6 k6 c6) l6 ∧ M.Right false l6 ∧ M.val l6 = lcmOf (fun i => M.val (d i)) k) := ⟨n6.mono HI.out.1.size, ⟨n6.sl.bd, t6, by have := H144.out; omega, fun _ => rfl⟩, by have h := HL.out.2.2; rw [v6]; simp [D.int] at h; omega⟩
        have HK6 := hid' (HI.out.1.trans hk6)
        have HZ := hid' hz
        have q0 := hz.c0
        have q1 := hz.c1
        have q2 := hz.fz 0
        have q3 := hz.fz 1
        clear hk6 n6 t6 v6 e6 hz g0 g1
        go_wp2
        refine bodyPost_ret (v := .tuple #[.agg #[.bool false, .slice a6 k6 c6], .int .i64 0]) (by simp [results, Try.results13, go_sem, q0, q1]) rfl ⟨((HK6.out.setCell HP2.out _).setCell HP2.out _), 0, HC.out, .inr ⟨rfl, .inl ⟨a6, k6, c6, l6, rfl, New.box2 HN6.out.1 HZ.out _ _, HN6.out.2.1, HN6.out.2.2⟩⟩⟩
  · have q0 := Z2.c0
    have q1 := Z2.c1
    have q2 := Z2.fz 0
    have q3 := Z2.fz 1
    have hb : ((c : Int) == 0) = false := by simpa using hc0
    have HN0 := hid' hc0
    clear hc0 Z2
    go_wp2
    refine bodyPost_ret (v := .tuple #[.agg #[.bool false, .slice none 0 0], .int .i64 c]) (by simp [results, Try.results13, go_sem, q0, q1]) rfl ⟨((HK1.out.setCell (Nat.le_refl _) _).setCell (Nat.le_refl _) _), c, HC.out, .inl ⟨HN0.out, rfl⟩⟩

end F
end Go.Proofs.Ytfpcoolkkmnngaa
