/- shuntref06.Texts, shuntref06.Same. awake of package shuntlaw06. shuntlaw06.LexCase. -/
import Derived.Test.YtbmmiepjkamaeaaDoorGae
import Derived.Lib.QuietBelow
namespace Go.Proofs.YtbmmiepjkamaeaaDoor
open Go.RowKit
namespace X
def RS (w : World) (v : Value) (ws : List (List UInt8)) : Prop :=
 ∃ ao c, v = .slice ao ws.length c ∧ (0 < ws.length → ∃ b off, ao = some ⟨b, off, none⟩ ∧ b < w.heap.size ∧ ∀ j, j < ws.length → w.cell? ⟨b, off + j, none⟩ = some (.string (bs (ws.getD j []))))
theorem RS.kept {w w' : World} {v : Value} {ws : List (List UInt8)} (h : RS w v ws) (k : Kept w w') : RS w' v ws := by
 obtain ⟨ao, c, rfl, h⟩ := h
 refine ⟨ao, c, rfl, fun h0 => ?_⟩
 obtain ⟨b, off, rfl, hb, hc⟩ := h h0
 exact ⟨b, off, rfl, Nat.lt_of_lt_of_le hb k.size, fun j hj => (Below.cell k (p := ⟨b, off + j, none⟩) hb).trans (hc j hj)⟩
theorem OwnS.rs {B : Nat} {w : World} {v : Value} {ws : List (List UInt8)} (h : OwnS B w v ws) : RS w v ws := by
 by_cases h0 : 0 < ws.length
 ·
  obtain ⟨g, cap, rfl, _, hg, _, hc, _⟩ := h.read h0
  exact ⟨_, _, rfl, fun _ => ⟨g, 0, rfl, hg, fun j hj => by rw [Nat.zero_add]; exact hc j hj⟩⟩
 ·
  obtain ⟨ao, cap, rfl⟩ := h.shape
  exact ⟨_, _, rfl, fun h => absurd h h0⟩
def RL (w : World) (v : Value) (told : List Ln) : Prop :=
 ∃ ao c, v = .slice ao told.length c ∧ (0 < told.length → ∃ b off, ao = some ⟨b, off, none⟩ ∧ b < w.heap.size ∧ ∀ j, j < told.length → w.cell? ⟨b, off + j * 2, none⟩ = some (.int .i64 ((told.getD j (0, [])).1 : Int)) ∧ ∃ u, w.cell? ⟨b, off + j * 2 + 1, none⟩ = some u ∧ RS w u (told.getD j (0, [])).2)
theorem RL.kept {w w' : World} {v : Value} {told : List Ln} (h : RL w v told) (k : Kept w w') : RL w' v told := by
 obtain ⟨ao, c, rfl, h⟩ := h
 refine ⟨ao, c, rfl, fun h0 => ?_⟩
 obtain ⟨b, off, rfl, hb, hc⟩ := h h0
 refine ⟨b, off, rfl, Nat.lt_of_lt_of_le hb k.size, fun j hj => ?_⟩
 obtain ⟨h1, u, h2, h3⟩ := hc j hj
 exact ⟨(Below.cell k (p := ⟨b, off + j * 2, none⟩) hb).trans h1, u, (Below.cell k (p := ⟨b, off + j * 2 + 1, none⟩) hb).trans h2, h3.kept k⟩
theorem OwnL.rl {B : Nat} {w : World} {v : Value} {told : List Ln} {vs : List Value} (h : OwnL B w v told vs) : RL w v told := by
 obtain ⟨ao, cap, rfl⟩ := h.shape
 refine ⟨_, _, rfl, fun h0 => ?_⟩
 obtain ⟨g, cap', hv, _, hlt⟩ := h.row.form h0
 simp only [Value.slice.injEq] at hv
 obtain ⟨rfl, _, rfl⟩ := hv
 refine ⟨g, 0, rfl, hlt, fun j hj => ?_⟩
 have hc := lnc_at told vs j h.len hj
 rw [Nat.zero_add]
 exact ⟨owns_cell h.row hc.1, _, owns_cell h.row hc.2, (h.own j hj).rs⟩
theorem eq_of_getD {α : Type} {a b : List α} (d : α) (hl : a.length = b.length) (h : ∀ j, j < a.length → a.getD j d = b.getD j d) : a = b := by
 apply List.ext_getElem hl
 intro i h1 h2
 have := h i h1
 rwa [List.getD_eq_getElem?_getD, List.getD_eq_getElem?_getD, List.getElem?_eq_getElem h1, List.getElem?_eq_getElem h2] at this
set_option maxRecDepth 100000 in
set_option maxHeartbeats 4000000 in
theorem texts_any (u1 u2 : Value) (a b : List (List UInt8)) (w : World) (h1 : RS w u1 a) (h2 : RS w u2 b) (hl : a.length ≤ 1000000) :
  Calls Tryd.prog 12 #[u1, u2] w fun e w' => Kept w w' ∧ e = .returned (.bool (decide (a = b))) := by
 obtain ⟨ao, c, rfl, h1⟩ := h1
 obtain ⟨ao', c', rfl, h2⟩ := h2
 obtain ⟨n, hn⟩ : ∃ n, n = a.length := ⟨_, rfl⟩
 rw [← hn] at h1 hl ⊢
 by_cases hne : n = b.length
 ·
  rw [← hne] at h2 ⊢
  have HN := hid' (And.intro hn hne)
  have H1 := hid' h1
  have H2 := hid' h2
  clear hn hne h1 h2
  go_enter Tryd.func12, Tryd.ntmps12
  go_wp2_with fail
  go_loopw [5] (fun vi wr => ∃ k : Nat, k ≤ n ∧ vi = .int .i64 (k : Int) ∧ Hid (Kept w wr ∧ ∀ j, j < k → a.getD j [] = b.getD j [])) (fun vi _ => n - (intOf vi).toNat)
  case atStart => exact ⟨0, Nat.zero_le _, rfl, Kept.refl _, fun j hj => absurd hj (Nat.not_lt_zero _)⟩
  case round =>
   obtain ⟨k, hk, rfl, H⟩ := hrel
   by_cases hlt : k < n
   ·
    have hi : (k : Int) < (n : Int) := by omega
    have hn0 : 0 < n := by omega
    obtain ⟨b1, o1, rfl, hb1, hc1⟩ := H1.out hn0
    obtain ⟨b2, o2, rfl, hb2, hc2⟩ := H2.out hn0
    have q1 := (Below.cell H.out.1 (p := ⟨b1, o1 + k, none⟩) hb1).trans (hc1 k hlt)
    have q2 := (Below.cell H.out.1 (p := ⟨b2, o2 + k, none⟩) hb2).trans (hc2 k hlt)
    obtain ⟨x, hx⟩ : ∃ x, x = a.getD k [] := ⟨_, rfl⟩
    obtain ⟨y, hy⟩ : ∃ y, y = b.getD k [] := ⟨_, rfl⟩
    rw [← hx] at q1
    rw [← hy] at q2
    have HX := hid' (And.intro hx hy)
    have e1 : (bs x).toList = x := by rw [ByteArray.toList_eq, bs_list]
    have e2 : (bs y).toList = y := by rw [ByteArray.toList_eq, bs_list]
    clear hx hy hb1 hb2 hc1 hc2
    generalize bs x = t1 at q1 e1
    generalize bs y = t2 at q2 e2
    by_cases hxy : x = y
    ·
     subst hxy
     have hq : t1.toList = t2.toList := by rw [e1, e2]
     have hq' : (t1.toList == t2.toList) = true := by rw [hq]; simp
     clear e1 e2 hq
     go_wp2_with fail
     go_quiet (fail)
     go_wp2_with fail
     go_roundw
     case rel =>
      refine ⟨k + 1, by omega, by go_num, H.out.1.drewN _, fun j hj => ?_⟩
      by_cases e : j = k
      ·
       subst e; rw [← HX.out.1, ← HX.out.2]
      ·
       exact H.out.2 j (by omega)
     case measure => show n - ((k : Int) + 1).toNat < n - (k : Int).toNat; omega
    ·
     have hq : ¬ t1.toList = t2.toList := by rw [e1, e2]; exact hxy
     have hq' : (t1.toList == t2.toList) = false := by simpa using hq
     have HD := hid' (show decide (a = b) = false from decide_eq_false (fun e => hxy (by rw [HX.out.1, HX.out.2, e])))
     clear e1 e2 hq hxy
     go_wp2_with fail
     go_quiet (fail)
     go_wp2_with fail
     go_ret
     exact ⟨H.out.1.drewN _, by rw [HD.out]; rfl⟩
   ·
    have hi : ¬ (k : Int) < (n : Int) := by omega
    have HD := hid' (show decide (a = b) = true from decide_eq_true (eq_of_getD [] (by rw [← HN.out.1, ← HN.out.2]) (fun j hj => H.out.2 j (by rw [← HN.out.1] at hj; omega))))
    go_wp2_with fail
    go_ret
    exact ⟨H.out.1, by rw [HD.out]; rfl⟩
 ·
  have hz : ¬ (n : Int) = (b.length : Int) := by omega
  have hz' : ((n : Int) == (b.length : Int)) = false := by simpa using hz
  have HD := hid' (show decide (a = b) = false from decide_eq_false (fun e => hne (by rw [hn, e])))
  clear hn h1 h2
  generalize b.length = m at *
  go_enter Tryd.func12, Tryd.ntmps12
  go_wp2_with fail
  go_ret
  exact ⟨Kept.refl _, by rw [HD.out]; rfl⟩
open Go.Sort (grow) in
set_option maxRecDepth 100000 in
set_option maxHeartbeats 8000000 in
theorem same_any (u1 u2 : Value) (a b : List Ln) (w : World) (h1 : RL w u1 a) (h2 : RL w u2 b) (hl : a.length ≤ 1000000) (hw : ∀ x ∈ a, x.2.length ≤ 1000000) :
  Calls Tryd.prog 11 #[u1, u2] w fun e w' => Kept w w' ∧ e = .returned (.bool (decide (a = b))) := by
 obtain ⟨ao, c, rfl, h1⟩ := h1
 obtain ⟨ao', c', rfl, h2⟩ := h2
 obtain ⟨n, hn⟩ : ∃ n, n = a.length := ⟨_, rfl⟩
 rw [← hn] at h1 hl ⊢
 by_cases hne : n = b.length
 ·
  rw [← hne] at h2 ⊢
  have HN := hid' (And.intro hn hne)
  have H1 := hid' h1
  have H2 := hid' h2
  clear hn hne h1 h2
  go_enter Tryd.func11, Tryd.ntmps11
  go_wp2_with fail
  go_loopw [5] (fun vi wr => ∃ k : Nat, k ≤ n ∧ vi = .int .i64 (k : Int) ∧ Hid (Kept w wr ∧ ∀ j, j < k → a.getD j (0, []) = b.getD j (0, []))) (fun vi _ => n - (intOf vi).toNat)
  case atStart => exact ⟨0, Nat.zero_le _, rfl, Kept.refl _, fun j hj => absurd hj (Nat.not_lt_zero _)⟩
  case round =>
   obtain ⟨k, hk, rfl, H⟩ := hrel
   by_cases hlt : k < n
   ·
    have hi : (k : Int) < (n : Int) := by omega
    have hn0 : 0 < n := by omega
    obtain ⟨b1, o1, rfl, hb1, hc1⟩ := H1.out hn0
    obtain ⟨b2, o2, rfl, hb2, hc2⟩ := H2.out hn0
    obtain ⟨p1, v1, p1', R1⟩ := hc1 k hlt
    obtain ⟨p2, v2, p2', R2⟩ := hc2 k hlt
    have hxw : (a.getD k (0, [])).2.length ≤ 1000000 := by
     have hka : k < a.length := by rw [← HN.out.1]; exact hlt
     rw [List.getD_eq_getElem?_getD, List.getElem?_eq_getElem hka]
     exact hw _ (List.getElem_mem hka)
    obtain ⟨x, hx⟩ : ∃ x, x = a.getD k (0, []) := ⟨_, rfl⟩
    obtain ⟨y, hy⟩ : ∃ y, y = b.getD k (0, []) := ⟨_, rfl⟩
    rw [← hx] at p1 R1 hxw
    rw [← hy] at p2 R2
    obtain ⟨xa, xw⟩ := x
    obtain ⟨ya, yw⟩ := y
    have HX := hid' (And.intro hx hy)
    simp only at p1 p2 R1 R2 hxw
    go_upto_region 6 with fail
    have KR : ∀ d os, Kept w (grow (redrawn wr d) os) := fun d os => H.out.1.trans (below_regrown wr d os)
    have r1 : ∀ d os, (grow (redrawn wr d) os).cell? ⟨b1, o1 + k * 2, none⟩ = some (.int .i64 (xa : Int)) := fun d os => (Below.cell (KR d os) (p := ⟨b1, o1 + k * 2, none⟩) hb1).trans p1
    have r2 : ∀ d os, (grow (redrawn wr d) os).cell? ⟨b1, o1 + k * 2 + 1, none⟩ = some v1 := fun d os => (Below.cell (KR d os) (p := ⟨b1, o1 + k * 2 + 1, none⟩) hb1).trans p1'
    have r3 : ∀ d os, (grow (redrawn wr d) os).cell? ⟨b2, o2 + k * 2, none⟩ = some (.int .i64 (ya : Int)) := fun d os => (Below.cell (KR d os) (p := ⟨b2, o2 + k * 2, none⟩) hb2).trans p2
    have r4 : ∀ d os, (grow (redrawn wr d) os).cell? ⟨b2, o2 + k * 2 + 1, none⟩ = some v2 := fun d os => (Below.cell (KR d os) (p := ⟨b2, o2 + k * 2 + 1, none⟩) hb2).trans p2'
    have cS : ∀ d os, Calls Tryd.prog 12 #[v1, v2] (grow (redrawn wr d) os) fun e w'' => e = .returned (.bool (decide (xw = yw))) ∧ ∃ p : Regrown, w'' = grow (redrawn wr p.d) p.os := fun d os =>
     Calls.regrown_of ((texts_any v1 v2 xw yw _ (R1.kept (KR d os)) (R2.kept (KR d os)) hxw).mono fun e w' h => ⟨h.2, h.1⟩)
    obtain ⟨ao3, c3, rfl, _⟩ := R1
    obtain ⟨ao4, c4, rfl, _⟩ := R2
    have HKR := hid' KR
    clear KR p1 p1' p2 p2' hc1 hc2 hb1 hb2 hx hy
    obtain ⟨bt, hbt⟩ : ∃ bt, bt = decide (xw = yw) := ⟨_, rfl⟩
    rw [← hbt] at cS
    have HBT := hid' hbt
    clear hbt
    by_cases hxy : (xa : Int) = (ya : Int)
    ·
     have hxy' : ((xa : Int) == (ya : Int)) = true := by simpa using hxy
     cases bt
     ·
      refine wp_region_quiet_below (by kernel_rfl) (by kernel_rfl) ?_
      repeat (quiet_step (exact cS _ _))
      refine wpQuiet_nil ?_
      intro _ hw'
      obtain ⟨⟨dq, osq⟩, hw''⟩ := hw'
      subst hw''
      go_wp2_with fail
      go_ret
      refine ⟨HKR.out dq osq, ?_⟩
      rw [show decide (a = b) = false from decide_eq_false (fun e => by
       have h1 := HX.out.1
       rw [e, ← HX.out.2] at h1
       cases h1
       exact absurd HBT.out (by simp))]
      rfl
     ·
      refine wp_region_quiet_below (by kernel_rfl) (by kernel_rfl) ?_
      repeat (quiet_step (exact cS _ _))
      refine wpQuiet_nil ?_
      intro _ hw'
      obtain ⟨⟨dq, osq⟩, hw''⟩ := hw'
      subst hw''
      go_wp2_with fail
      go_roundw
      case rel =>
       refine ⟨k + 1, by omega, by go_num, HKR.out dq osq, fun j hj => ?_⟩
       by_cases e : j = k
       ·
        subst e
        rw [← HX.out.1, ← HX.out.2]
        have h1 := HBT.out
        have h2 : xw = yw := by simpa using h1.symm
        have h3 : xa = ya := by omega
        rw [h2, h3]
       ·
        exact H.out.2 j (by omega)
      case measure => show n - ((k : Int) + 1).toNat < n - (k : Int).toNat; omega
    ·
     have hxy' : ((xa : Int) == (ya : Int)) = false := by simpa using hxy
     clear cS
     refine wp_region_quiet_below (by kernel_rfl) (by kernel_rfl) ?_
     repeat (quiet_step (fail))
     refine wpQuiet_nil ?_
     intro _ hw'
     obtain ⟨⟨dq, osq⟩, hw''⟩ := hw'
     subst hw''
     go_wp2_with fail
     go_ret
     refine ⟨HKR.out dq osq, ?_⟩
     rw [show decide (a = b) = false from decide_eq_false (fun e => by
      have h1 := HX.out.1
      rw [e, ← HX.out.2] at h1
      cases h1
      exact hxy rfl)]
     rfl
   ·
    have hi : ¬ (k : Int) < (n : Int) := by omega
    have HD := hid' (show decide (a = b) = true from decide_eq_true (eq_of_getD (0, []) (by rw [← HN.out.1, ← HN.out.2]) (fun j hj => H.out.2 j (by rw [← HN.out.1] at hj; omega))))
    go_wp2_with fail
    go_ret
    exact ⟨H.out.1, by rw [HD.out]; rfl⟩
 ·
  have hz : ¬ (n : Int) = (b.length : Int) := by omega
  have hz' : ((n : Int) == (b.length : Int)) = false := by simpa using hz
  have HD := hid' (show decide (a = b) = false from decide_eq_false (fun e => hne (by rw [hn, e])))
  clear hn h1 h2
  generalize b.length = m at *
  go_enter Tryd.func11, Tryd.ntmps11
  go_wp2_with fail
  go_ret
  exact ⟨Kept.refl _, by rw [HD.out]; rfl⟩
end X
end Go.Proofs.YtbmmiepjkamaeaaDoor

namespace Go.Proofs.YtbmmiepjkamaeaaDoor
open Go.RowKit
namespace X
def awk : List Ln := [(2, [[114, 49], [97], [98]]), (4, [[120]])]
theorem awk_lines : linesOf [42, 32, 116, 10, 82, 49, 32, 97, 10, 43, 32, 66, 59, 99, 10, 120] = (awk, 0, 0) := by decide +kernel
theorem al_new (W : World) (C : Array Value) (t : TypeId) (b j : Nat) (u : Value) (hb : b = W.heap.size) (hj : C[j]? = some u) : (W.alloc (.cells C t)).cell? ⟨b, j, none⟩ = some u := by
 subst hb
 exact (World.cell?_alloc_mark W C t (0, 0) j).trans hj
theorem al_old {W : World} {b j : Nat} {u : Value} (o : Obj) (h : W.cell? ⟨b, j, none⟩ = some u) : (W.alloc o).cell? ⟨b, j, none⟩ = some u :=
 (World.cell?_alloc_old W o ⟨b, j, none⟩ (Nat.ne_of_lt (World.block_lt_of_cell? _ _ h))).trans h
theorem awk_rl (w : World) : RL (((w.alloc (.cells #[.string ⟨#[114, 49]⟩, .string ⟨#[97]⟩, .string ⟨#[98]⟩] 9)).alloc (.cells #[.string ⟨#[120]⟩] 9)).alloc (.cells #[.int .i64 2, .slice (some ⟨w.heap.size, 0, none⟩) 3 3, .int .i64 4, .slice (some ⟨w.heap.size + 1, 0, none⟩) 1 1] 32)) (.slice (some ⟨w.heap.size + 1 + 1, 0, none⟩) 2 2) awk := by
 refine ⟨_, 2, rfl, fun _ => ⟨w.heap.size + 1 + 1, 0, rfl, by simp, fun j hj => ?_⟩⟩
 have hj : j < 2 := hj
 rcases (show j = 0 ∨ j = 1 by omega) with rfl | rfl
 ·
  refine ⟨al_new _ _ _ _ _ _ (by simp) rfl, .slice (some ⟨w.heap.size, 0, none⟩) 3 3, al_new _ _ _ _ _ _ (by simp) rfl, some ⟨w.heap.size, 0, none⟩, 3, rfl, fun _ => ⟨w.heap.size, 0, rfl, by simp; omega, fun i hi => ?_⟩⟩
  have hi : i < 3 := hi
  rcases (show i = 0 ∨ i = 1 ∨ i = 2 by omega) with rfl | rfl | rfl
  ·
   exact al_old _ (al_old _ (al_new _ _ _ _ _ _ rfl rfl))
  ·
   exact al_old _ (al_old _ (al_new _ _ _ _ _ _ rfl rfl))
  ·
   exact al_old _ (al_old _ (al_new _ _ _ _ _ _ rfl rfl))
 ·
  refine ⟨al_new _ _ _ _ _ _ (by simp) rfl, .slice (some ⟨w.heap.size + 1, 0, none⟩) 1 1, al_new _ _ _ _ _ _ (by simp) rfl, some ⟨w.heap.size + 1, 0, none⟩, 1, rfl, fun _ => ⟨w.heap.size + 1, 0, rfl, by simp, fun i hi => ?_⟩⟩
  have hi : i < 1 := hi
  obtain rfl : i = 0 := by omega
  exact al_old _ (al_new _ _ _ _ _ _ (by simp) rfl)
set_option maxRecDepth 100000 in
set_option maxHeartbeats 4000000 in
theorem awake_any (w : World) : Calls Tryd.prog 8 #[] w fun e w' => Kept w w' ∧ e = .returned (.bool true) := by
 have hL := lines_any ⟨#[42, 32, 116, 10, 82, 49, 32, 97, 10, 43, 32, 66, 59, 99, 10, 120]⟩ w (by decide)
 rw [show (⟨#[42, 32, 116, 10, 82, 49, 32, 97, 10, 43, 32, 66, 59, 99, 10, 120]⟩ : ByteArray).data.toList = [42, 32, 116, 10, 82, 49, 32, 97, 10, 43, 32, 66, 59, 99, 10, 120] from rfl, awk_lines] at hL
 go_enter Tryd.func8, Tryd.ntmps8
 go_wp2_with fail
 refine hL.mono ?_
 rintro e w1 ⟨hk, v, vs, rfl, own⟩
 have HK := hid' (And.intro hk own.rl)
 clear hk own hL
 go_wp2_with fail
 have hA := awk_rl w1
 have hK2 := ((((Kept.refl w1).alloc (.cells #[.string ⟨#[114, 49]⟩, .string ⟨#[97]⟩, .string ⟨#[98]⟩] 9)).alloc (.cells #[.string ⟨#[120]⟩] 9)).alloc (.cells #[.int .i64 2, .slice (some ⟨w1.heap.size, 0, none⟩) 3 3, .int .i64 4, .slice (some ⟨w1.heap.size + 1, 0, none⟩) 1 1] 32))
 refine (same_any _ _ awk awk _ (HK.out.2.kept hK2) hA (by decide) (by decide)).mono ?_
 rintro e w2 ⟨hk2, rfl⟩
 have HK2 := hid' ((HK.out.1.trans hK2).trans hk2)
 rw [decide_eq_true (rfl : awk = awk)]
 clear hA hK2 hk2
 go_wp2_with fail
 go_ret
 exact ⟨HK2.out, rfl⟩
end X
end Go.Proofs.YtbmmiepjkamaeaaDoor

namespace Go.Proofs.YtbmmiepjkamaeaaDoor
open Go.RowKit
namespace X
def mpTo (f : UInt8 → UInt8) (k : Nat) (l : List UInt8) : List UInt8 := (l.take k).map f ++ l.drop k
section
variable (f : UInt8 → UInt8)
theorem mpTo_len (k : Nat) (l : List UInt8) : (mpTo f k l).length = l.length := by unfold mpTo; simp; omega
theorem mpTo_zero (l : List UInt8) : mpTo f 0 l = l := by simp [mpTo]
theorem mpTo_all (l : List UInt8) (k : Nat) (h : l.length ≤ k) : mpTo f k l = l.map f := by simp [mpTo, List.take_of_length_le h, List.drop_of_length_le h]
theorem mpTo_at (k : Nat) (l : List UInt8) (h : k < l.length) : (mpTo f k l).getD k 0 = l[k] := by
 unfold mpTo
 rw [List.getD_eq_getElem?_getD, List.getElem?_append_right (by simp; omega)]
 simp [Nat.min_eq_left (Nat.le_of_lt h), h]
theorem mpTo_succ (k : Nat) (l : List UInt8) (h : k < l.length) : mpTo f (k + 1) l = (mpTo f k l).set k (f l[k]) := by
 unfold mpTo
 rw [List.set_append_right _ _ (by simp; omega)]
 simp only [List.length_map, List.length_take, Nat.min_eq_left (Nat.le_of_lt h), Nat.sub_self]
 rw [List.take_succ_eq_append_getElem h, List.map_append, List.append_assoc]
 congr 1
 rw [List.drop_eq_getElem_cons h]
 rfl
theorem mpTo_same (k : Nat) (l : List UInt8) (h : k < l.length) (hs : f l[k] = l[k]) : mpTo f (k + 1) l = mpTo f k l := by
 rw [mpTo_succ f k l h, hs]
 apply List.ext_getElem?
 intro i
 by_cases e : k = i
 ·
  subst e
  have := mpTo_at f k l h
  rw [List.getD_eq_getElem?_getD] at this
  rw [List.getElem?_set_self (by rw [mpTo_len]; exact h), List.getElem?_eq_getElem (by rw [mpTo_len]; exact h)]
  rw [List.getElem?_eq_getElem (by rw [mpTo_len]; exact h)] at this
  simpa using this.symm
 ·
  rw [List.getElem?_set_ne e]
end
theorem LnIs.rl {B : Nat} {w : World} {e : Ending} {r : List Ln × Nat × Nat} (h : LnIs B w e r) : ∃ v, e = .returned (.tuple #[v, .int .i64 (r.2.1 : Int), .int .i64 (r.2.2 : Int)]) ∧ RL w v r.1 := by
 obtain ⟨v, vs, he, own⟩ := h
 exact ⟨v, he, own.rl⟩
theorem lines_sizes (T : List UInt8) : (linesOf T).1.length ≤ 70000 ∧ (linesOf T).2.1 ≤ 70000 ∧ ∀ x ∈ (linesOf T).1, x.2.length ≤ 64 := by
 by_cases h : 65536 < T.length
 ·
  rw [lines_long h]; exact ⟨by decide, by decide, fun x hx => by simp at hx⟩
 ·
  have hc := cut10_len_le T
  refine ⟨?_, ?_, fun x hx => ((lines_ok T).1 x hx).2.1⟩
  ·
   rw [lines_go h]
   have key : ∀ (ls : List (List UInt8)) (told : List Ln) (n : Nat), (go told n ls).1.length ≤ told.length + ls.length := by
    intro ls
    induction ls with
    | nil => intro told n; exact Nat.le_refl _
    | cons l ls ih =>
     intro told n
     rw [go]
     rcases ht : tk told (n + 1) l with e | t
     ·
      simp
     ·
      have h1 := ih t (n + 1)
      have h2 := tk_len ht
      simp only [List.length_cons]
      omega
   have := key (cut10 T) [] 0
   simp at this
   omega
  ·
   rw [lines_go h]
   have := go_place (cut10 T) [] 0
   omega
set_option maxRecDepth 100000 in
set_option maxHeartbeats 4000000 in
theorem lexCase_any (s : ByteArray) (w : World) (hs : s.size ≤ 9223372036854775807) : Calls Tryd.prog 6 #[.string s] w fun e w' => Kept w w' ∧ e = .returned (.bool true) := by
 go_enter Tryd.func6, Tryd.ntmps6
 go_wp2_with fail
 refine (awake_any _).mono ?_
 rintro e w1 ⟨hk1, rfl⟩
 have HK1 := hid' hk1
 clear hk1
 have hcv := run_bytes_of_string (P := Tryd.prog) w1 9 35 5 s Tryd.underlying9 Tryd.underlying35 Tryd.underlying5
 go_wp2_with fail
 have hB : BRow (w1.alloc (.cells (bytesRow s (grownCap w1 s.size 0 5)) 5 ((bytesRow s (grownCap w1 s.size 0 5)).size, (bytesRow s (grownCap w1 s.size 0 5)).size + 1))).drew w1.heap.size s.data.toList := BRow.of_bytes w1 s (grownCap w1 s.size 0 5) 5
 have hK := HK1.out.trans ((Kept.refl w1).alloc (.cells (bytesRow s (grownCap w1 s.size 0 5)) 5 ((bytesRow s (grownCap w1 s.size 0 5)).size, (bytesRow s (grownCap w1 s.size 0 5)).size + 1))).drew
 clear hcv
 generalize (w1.alloc (.cells (bytesRow s (grownCap w1 s.size 0 5)) 5 ((bytesRow s (grownCap w1 s.size 0 5)).size, (bytesRow s (grownCap w1 s.size 0 5)).size + 1))).drew = W at hB hK ⊢
 obtain ⟨cap, hcap⟩ : ∃ c, c = grownCap w1 s.size 0 5 := ⟨_, rfl⟩
 rw [← hcap]
 clear hcap
 obtain ⟨p, hp⟩ : ∃ p, p = w1.heap.size := ⟨_, rfl⟩
 rw [← hp] at hB ⊢
 have hpw : w.heap.size ≤ p := by have := HK1.out.size; omega
 have H0 := hid' (And.intro hK (And.intro hB hpw))
 clear hp hpw hK hB
 go_loopw [17] (fun vi wr => ∃ k : Nat, k ≤ s.size ∧ vi = .int .i64 (k : Int) ∧ Hid (Kept w wr ∧ BRow wr p (mpTo up k s.data.toList))) (fun vi _ => s.size - (intOf vi).toNat)
 case atStart => exact ⟨0, Nat.zero_le _, rfl, H0.out.1, by rw [mpTo_zero]; exact H0.out.2.1⟩
 case round =>
  obtain ⟨k, hk, rfl, H⟩ := hrel
  by_cases hlt : k < s.size
  ·
   have hi : (k : Int) < (s.size : Int) := by omega
   have hl : k < s.data.toList.length := by rw [len_list]; exact hlt
   have hc := H.out.2.2 k (by rw [mpTo_len]; exact hl)
   rw [mpTo_at up k _ hl] at hc
   obtain ⟨c, hcc⟩ : ∃ c, c = s.data.toList[k] := ⟨_, rfl⟩
   rw [← hcc] at hc
   have HC := hid' hcc
   have c1 := hc.1
   have c2 := hc.2
   clear hc hcc
   by_cases h1 : 97 ≤ c.toNat ∧ c.toNat ≤ 122
   ·
    have h1' : (97 : Int) ≤ (c.toNat : Int) := by omega
    have h2' : (c.toNat : Int) ≤ 122 := by omega
    have hw : IntKind.u8.wrap ((c.toNat : Int) - 32) = ((up c).toNat : Int) := by
     have e1 : up c = c - 32 := by unfold up; rw [if_pos h1]
     have e2 : (c - 32).toNat = c.toNat - 32 := by rw [UInt8.toNat_sub_of_le _ _ (by rw [UInt8.le_iff_toNat_le]; exact Nat.le_trans (by decide) h1.1)]; rfl
     rw [e1, e2]
     show ((c.toNat : Int) - 32) % 256 = _
     omega
    clear h1
    go_wp2_with fail
    go_roundw
    case rel =>
     refine ⟨k + 1, by omega, by go_num, H.out.1.setCell (p := ⟨p, k, none⟩) H0.out.2.2 _, ?_⟩
     rw [mpTo_succ up k _ hl, ← HC.out]
     exact H.out.2.set (by rw [mpTo_len]; exact hl) (up c) rfl
    case measure => show s.size - ((k : Int) + 1).toNat < s.size - (k : Int).toNat; omega
   ·
    by_cases h3 : c.toNat = 32
    ·
     have h3' : (c.toNat : Int) = 32 := by omega
     have h4 : ¬ (97 : Int) ≤ (c.toNat : Int) := by omega
     have HU := hid' (show up c = 9 by unfold up; rw [if_neg h1, if_pos h3])
     clear h1 h3
     go_wp2_with fail
     go_roundw
     case rel =>
      refine ⟨k + 1, by omega, by go_num, H.out.1.setCell (p := ⟨p, k, none⟩) H0.out.2.2 _, ?_⟩
      rw [mpTo_succ up k _ hl, ← HC.out]
      exact H.out.2.set (by rw [mpTo_len]; exact hl) (up c) (by rw [HU.out]; rfl)
     case measure => show s.size - ((k : Int) + 1).toNat < s.size - (k : Int).toNat; omega
    ·
     have h3' : ¬ (c.toNat : Int) = 32 := by omega
     have h3'' : ((c.toNat : Int) == 32) = false := by simpa using h3'
     have HU := hid' (show up c = c by unfold up; rw [if_neg h1, if_neg h3])
     by_cases h4 : (97 : Int) ≤ (c.toNat : Int)
     ·
      have h5 : ¬ (c.toNat : Int) ≤ 122 := by omega
      clear h1 h3
      go_wp2_with fail
      go_roundw
      case rel => exact ⟨k + 1, by omega, by go_num, H.out.1, by rw [mpTo_same up k _ hl (by rw [← HC.out]; exact HU.out)]; exact H.out.2⟩
      case measure => show s.size - ((k : Int) + 1).toNat < s.size - (k : Int).toNat; omega
     ·
      clear h1 h3
      go_wp2_with fail
      go_roundw
      case rel => exact ⟨k + 1, by omega, by go_num, H.out.1, by rw [mpTo_same up k _ hl (by rw [← HC.out]; exact HU.out)]; exact H.out.2⟩
      case measure => show s.size - ((k : Int) + 1).toNat < s.size - (k : Int).toNat; omega
  ·
   have hi : ¬ (k : Int) < (s.size : Int) := by omega
   have hB := H.out.2
   rw [mpTo_all up _ k (by rw [len_list]; omega)] at hB
   have HB := hid' (And.intro H.out.1 hB)
   clear hB H
   go_wp2_with fail
   refine (lines_any s _ hs).mono ?_
   rintro e w2 ⟨hk2, h2⟩
   obtain ⟨v2, rfl, rl2⟩ := h2.rl
   have hcv := BRow.string (P := Tryd.prog) (show BRow w2 p (s.data.toList.map up) from ⟨Nat.lt_of_lt_of_le HB.out.2.1 hk2.size, fun j hj => by
    have hh := HB.out.2.2 j hj
    exact ⟨(Below.cell hk2 (p := ⟨p, j, none⟩) HB.out.2.1).trans hh.1, (World.frozen?_of_block (a := ⟨p, j, none⟩) (hk2.block p HB.out.2.1)).trans hh.2⟩⟩) 35 5 9 Tryd.underlying35 Tryd.underlying5 Tryd.underlying9 s.size cap (by rw [List.length_map, len_list])
   have H2 := hid' (And.intro (HB.out.1.trans hk2) rl2)
   clear h2 hk2 rl2
   go_wp2_with fail
   have h3 := lines_any (bs (s.data.toList.map up)) w2 (by rw [bs_size, List.length_map, len_list]; exact hs)
   rw [bs_list, lines_up] at h3
   refine h3.mono ?_
   rintro e w3 ⟨hk3, h3'⟩
   obtain ⟨v3, rfl, rl3⟩ := h3'.rl
   have H3 := hid' (And.intro (H2.out.1.trans hk3) (And.intro (H2.out.2.kept hk3) rl3))
   have hz := lines_sizes s.data.toList
   clear h3 h3' hk3 rl3 hcv
   generalize linesOf s.data.toList = R at H2 H3 hz ⊢
   go_wp2_with fail
   refine (same_any v2 v3 R.1 R.1 _ H3.out.2.1 H3.out.2.2 (by omega) (fun x hx => by have := hz.2.2 x hx; omega)).mono ?_
   rintro e w4 ⟨hk4, rfl⟩
   rw [decide_eq_true (rfl : R.1 = R.1)]
   have H4 := hid' (H3.out.1.trans hk4)
   clear hk4
   go_wp2_with fail
   go_ret
   exact ⟨H4.out, rfl⟩
end X
end Go.Proofs.YtbmmiepjkamaeaaDoor
