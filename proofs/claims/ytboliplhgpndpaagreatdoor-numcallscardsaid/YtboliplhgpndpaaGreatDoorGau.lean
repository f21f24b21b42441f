/- shuntref03.Parse: its variables; of no byte and of too many. shuntref03.power. -/
import Derived.Test.YtboliplhgpndpaaGreatDoorGat
import Derived.Test.YtboliplhgpndpaaGreatDoorGar
import Derived.Test.YtboliplhgpndpaaGreatDoorRwhole
import Derived.Test.YtboliplhgpndpaaGreatDoorGai
import Derived.Test.YtboliplhgpndpaaGreatDoorRset2
import Derived.Test.YtboliplhgpndpaaGreatDoorFfault
namespace Go.Proofs.YtboliplhgpndpaaGreatDoor
open Go.RowKit
namespace Q
structure W3 (w wr : World) (p2 p7 p8 : Nat) (sg : Bool) (ao : Option Addr) (k cap : Nat) (z : Nat) (aot : Option Addr) (nt capt : Nat) : Prop where
 kp : Kept w wr
 r2 : Row2 24 wr p2 (.int .i64 0) (.int .i64 0)
 r7 : Row2 70 wr p7 (.bool sg) (.slice ao k cap)
 r8 : Row2 70 wr p8 (.bool false) (.slice aot nt capt)
 na : D.NIs wr sg (.slice ao k cap) (z : Int)
 nten : D.NIs wr false (.slice aot nt capt) 10
 ntb : nt ≤ 1
 kb : k ≤ 200
 p7w : w.heap.size ≤ p7
 ne27 : ¬ p2 = p7
 ne87 : ¬ p8 = p7
theorem W3.kept {w wr wr' : World} {p2 p7 p8 : Nat} {sg : Bool} {ao : Option Addr} {k cap : Nat} {z : Nat} {aot : Option Addr} {nt capt : Nat} (h : W3 w wr p2 p7 p8 sg ao k cap z aot nt capt) (q : Kept wr wr') : W3 w wr' p2 p7 p8 sg ao k cap z aot nt capt :=
 ⟨h.kp.trans q, h.r2.kept q, h.r7.kept q, h.r8.kept q, h.na.kept q, h.nten.kept q, h.ntb, h.kb, h.p7w, h.ne27, h.ne87⟩
theorem W3.put {w wr : World} {p2 p7 p8 : Nat} {sg : Bool} {ao : Option Addr} {k cap : Nat} {z : Nat} {aot : Option Addr} {nt capt : Nat} (h : W3 w wr p2 p7 p8 sg ao k cap z aot nt capt) {sg' : Bool} {ao' : Option Addr} {k' cap' z' : Nat} (hn : D.NIs wr sg' (.slice ao' k' cap') (z' : Int)) (hk : k' ≤ 200) :
  W3 w ((wr.setCell ⟨p7, 0, none⟩ (.bool sg')).setCell ⟨p7, 1, none⟩ (.slice ao' k' cap')) p2 p7 p8 sg' ao' k' cap' z' aot nt capt :=
 ⟨Kept.put2 h.kp h.p7w _ _, h.r2.far h.ne27 _ _, h.r7.set2 _ _, h.r8.far h.ne87 _ _, hn.box2 h.r7.c0 h.r7.c1 _ _, h.nten.box2 h.r7.c0 h.r7.c1 _ _, h.ntb, hk, h.p7w, h.ne27, h.ne87⟩
end Q
end Go.Proofs.YtboliplhgpndpaaGreatDoor

namespace Go.Proofs.YtboliplhgpndpaaGreatDoor
open Go.RowKit
namespace Q
structure P2 (w wr : World) (p2 p3 : Nat) (sg : Bool) (ao : Option Addr) (k cap : Nat) (z : Int) : Prop where
 kp : Kept w wr
 r2 : Row2 70 wr p2 (.bool false) (.slice none 0 0)
 r3 : Row2 70 wr p3 (.bool sg) (.slice ao k cap)
 na : D.NIs wr sg (.slice ao k cap) z
 p2w : w.heap.size ≤ p2
 p3w : w.heap.size ≤ p3
 ne : ¬ p2 = p3
theorem P2.kept {w wr wr' : World} {p2 p3 : Nat} {sg : Bool} {ao : Option Addr} {k cap : Nat} {z : Int} (h : P2 w wr p2 p3 sg ao k cap z) (q : Kept wr wr') : P2 w wr' p2 p3 sg ao k cap z :=
 ⟨h.kp.trans q, h.r2.kept q, h.r3.kept q, h.na.kept q, h.p2w, h.p3w, h.ne⟩
theorem P2.put {w wr : World} {p2 p3 : Nat} {sg : Bool} {ao : Option Addr} {k cap : Nat} {z : Int} (h : P2 w wr p2 p3 sg ao k cap z) {sg' : Bool} {ao' : Option Addr} {k' cap' : Nat} {z' : Int} (hn : D.NIs wr sg' (.slice ao' k' cap') z') :
  P2 w ((wr.setCell ⟨p3, 0, none⟩ (.bool sg')).setCell ⟨p3, 1, none⟩ (.slice ao' k' cap')) p2 p3 sg' ao' k' cap' z' :=
 ⟨Kept.put2 h.kp h.p3w _ _, h.r2.far h.ne _ _, h.r3.set2 _ _, hn.box2 h.r3.c0 h.r3.c1 _ _, h.p2w, h.p3w, h.ne⟩
def NE (w : World) (e : Ending) (z : Int) (kk : Nat) : Prop := ∃ s ao k cap, e = .returned (.agg #[.bool s, .slice ao k cap]) ∧ D.NIs w s (.slice ao k cap) z ∧ k ≤ kk
def pw (n : Nat) : Int := ((10 ^ n : Nat) : Int)
theorem pw_succ (n : Nat) : pw (n + 1) = pw n * 10 := by unfold pw; rw [Nat.pow_succ, Int.natCast_mul]; rfl
theorem pw_pos (n : Nat) : 0 < pw n := by unfold pw; have := Nat.pow_pos (n := n) (show 0 < 10 by decide); omega
set_option maxRecDepth 100000 in
set_option maxHeartbeats 8000000 in
theorem rpower_any (n : Nat) (hn : n ≤ 100) (w : World) :
  Calls Tryz.prog 77 #[.int .i64 (n : Int)] w fun e w' => Kept w w' ∧ NE w' e (pw n) (n + 1) := by
 go_enter Tryz.func77, Tryz.ntmps77
 go_wp2_with fail
 refine (D.small_num 1 _ (by omega) (by omega)).mono ?_
 rintro e w1 ⟨hk1, ao1, k1, c1, rfl, n1, l1⟩
 go_wp2_with fail
 have hA : Kept w1 (w1.alloc (.cells #[.bool false, .slice ao1 k1 c1] 70)) := (Kept.refl w1).alloc _
 have hlt : w.heap.size < w1.heap.size := by have := hk1.size; simp at this; omega
 have hP : P2 w (w1.alloc (.cells #[.bool false, .slice ao1 k1 c1] 70)) w.heap.size w1.heap.size false ao1 k1 c1 1 :=
  ⟨(((Kept.refl w).alloc _).trans hk1).trans hA, ((Row2.alloc 70 w (.bool false) (.slice none 0 0)).kept hk1).kept hA, Row2.alloc 70 w1 (.bool false) (.slice ao1 k1 c1), n1.kept hA, Nat.le_refl _, by omega, by omega⟩
 generalize w1.alloc (.cells #[.bool false, .slice ao1 k1 c1] 70) = W at hP hA ⊢
 obtain ⟨p3, hp3⟩ : ∃ p, p = w1.heap.size := ⟨_, rfl⟩
 rw [← hp3] at hP ⊢
 obtain ⟨p2, hp2⟩ : ∃ p, p = w.heap.size := ⟨_, rfl⟩
 rw [← hp2] at hP ⊢
 have HP := hid' hP
 clear hp2 hp3 hP hA hlt hk1 n1
 go_loopw [4] (fun vi wr => ∃ (j : Nat) (sg : Bool) (ao : Option Addr) (k cap : Nat), j ≤ n ∧ vi = .int .i64 (j : Int) ∧ Hid (P2 w wr p2 p3 sg ao k cap (pw j) ∧ k ≤ j + 1)) (fun vi _ => n - (intOf vi).toNat)
 case atStart => exact ⟨0, _, _, _, _, Nat.zero_le _, rfl, HP.out, by omega⟩
 case round =>
  obtain ⟨j, sg, ao, k, cap, hj, rfl, HI⟩ := hrel
  obtain ⟨q0, q1, q2, q3⟩ := HI.out.1.r3.all
  by_cases hlt : j < n
  ·
   have hji : (j : Int) < (n : Int) := by omega
   go_wp2_with fail
   go_region_with (first
    | (go_at_call 26; refine (D.small_num 10 _ (by omega) (by omega)).mono ?_; rintro e wC ⟨hkC, aoC, kC, cC, rfl, nC, lC⟩; have HC := hid' (And.intro nC lC); have KC := (Kept.refl wr).drew.trans hkC; obtain ⟨g0, g1, g2, g3⟩ := (HI.out.1.kept KC).r3.all; clear nC lC hkC)
    | (go_at_call 29; refine (D.Times_any sg false ao aoC k kC cap cC _ _ _ (HI.out.1.na.kept KC) HC.out.1 (by have := HI.out.2; omega) (by have := HC.out.2; omega)).mono ?_; rintro e wE ⟨hkE, sE, aoE, kE, cE, rfl, nE, lE⟩; have HE := hid' (And.intro nE lE); have KE := KC.trans hkE; obtain ⟨j0, j1, j2, j3⟩ := (HI.out.1.kept KE).r3.all; clear nE lE hkE))
   all_goals
    have HWE := hid' (HI.out.1.kept KE)
    clear KC KE
    go_wp2_with fail
    go_roundw
    case rel => exact ⟨j + 1, sE, aoE, kE, cE, by omega, by go_num, HWE.out.put (by rw [pw_succ]; exact HE.out.1), by have h1 := HE.out.2; have h2 := HI.out.2; have h3 := HC.out.2; omega⟩
    case measure => show n - ((j : Int) + 1).toNat < n - (j : Int).toNat; omega
  ·
   obtain rfl : j = n := by omega
   have hji : ¬ (j : Int) < (j : Int) := by omega
   obtain ⟨d0, d1, d2, d3⟩ := HI.out.1.r2.all
   go_wp2_with fail
   refine bodyPost_ret (v := .agg #[.bool sg, .slice ao k cap]) (by simp [results, Tryz.results77, go_sem, d0, d1]) rfl ⟨Kept.put2 HI.out.1.kp HI.out.1.p2w _ _, sg, ao, k, cap, rfl, HI.out.1.na.box2 HI.out.1.r2.c0 HI.out.1.r2.c1 _ _, HI.out.2⟩
end Q
end Go.Proofs.YtboliplhgpndpaaGreatDoor
