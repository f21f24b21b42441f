/- shuntref06.Texts, shuntref06.Same. awake of package shuntlaw06. shuntlaw06.LexCase. shuntref06.blank, shuntref06.word. shuntref06.Words. -/
import Derived.Test.YtbmmiepjkamaeaaDoorGae
import Derived.Lib.QuietBelow
namespace Go.Proofs.YtbmmiepjkamaeaaDoor
open Go.RowKit
namespace X
def RS (w : World) (v : Value) (ws : List (List UInt8)) : Prop :=
 ∃ ao c, v = .slice ao ws.length c ∧ (0 < ws.length → ∃ b off, ao = some ⟨b, off, none⟩ ∧ b < w.heap.size ∧ ∀ j, j < ws.length → w.cell? ⟨b, off + j, none⟩ = some (.string (bs (ws.getD j []))))
theorem RS.kept {w w' : World} {v : Value} {ws : List (List UInt8)} (h : RS w v ws) (k : Kept w w') : RS w' v ws := by
 obtain ⟨ao, c, rfl, h⟩ := h
 refine ⟨ao, c, rfl, fun h0 => ?_⟩
 obtain ⟨b, off, rfl, hb, hc⟩ := h h0
 exact ⟨b, off, rfl, Nat.lt_of_lt_of_le hb k.size, fun j hj => (Below.cell k (p := ⟨b, off + j, none⟩) hb).trans (hc j hj)⟩
theorem OwnS.rs {B : Nat} {w : World} {v : Value} {ws : List (List UInt8)} (h : OwnS B w v ws) : RS w v ws := by
 by_cases h0 : 0 < ws.length
 ·
  obtain ⟨g, cap, rfl, _, hg, _, hc, _⟩ := h.read h0
  exact ⟨_, _, rfl, fun _ => ⟨g, 0, rfl, hg, fun j hj => by rw [Nat.zero_add]; exact hc j hj⟩⟩
 ·
  obtain ⟨ao, cap, rfl⟩ := h.shape
  exact ⟨_, _, rfl, fun h => absurd h h0⟩
def RL (w : World) (v : Value) (told : List Ln) : Prop :=
 ∃ ao c, v = .slice ao told.length c ∧ (0 < told.length → ∃ b off, ao = some ⟨b, off, none⟩ ∧ b < w.heap.size ∧ ∀ j, j < told.length → w.cell? ⟨b, off + j * 2, none⟩ = some (.int .i64 ((told.getD j (0, [])).1 : Int)) ∧ ∃ u, w.cell? ⟨b, off + j * 2 + 1, none⟩ = some u ∧ RS w u (told.getD j (0, [])).2)
theorem RL.kept {w w' : World} {v : Value} {told : List Ln} (h : RL w v told) (k : Kept w w') : RL w' v told := by
 obtain ⟨ao, c, rfl, h⟩ := h
 refine ⟨ao, c, rfl, fun h0 => ?_⟩
 obtain ⟨b, off, rfl, hb, hc⟩ := h h0
 refine ⟨b, off, rfl, Nat.lt_of_lt_of_le hb k.size, fun j hj => ?_⟩
 obtain ⟨h1, u, h2, h3⟩ := hc j hj
 exact ⟨(Below.cell k (p := ⟨b, off + j * 2, none⟩) hb).trans h1, u, (Below.cell k (p := ⟨b, off + j * 2 + 1, none⟩) hb).trans h2, h3.kept k⟩
theorem OwnL.rl {B : Nat} {w : World} {v : Value} {told : List Ln} {vs : List Value} (h : OwnL B w v told vs) : RL w v told := by
 obtain ⟨ao, cap, rfl⟩ := h.shape
 refine ⟨_, _, rfl, fun h0 => ?_⟩
 obtain ⟨g, cap', hv, _, hlt⟩ := h.row.form h0
 simp only [Value.slice.injEq] at hv
 obtain ⟨rfl, _, rfl⟩ := hv
 refine ⟨g, 0, rfl, hlt, fun j hj => ?_⟩
 have hc := lnc_at told vs j h.len hj
 rw [Nat.zero_add]
 exact ⟨owns_cell h.row hc.1, _, owns_cell h.row hc.2, (h.own j hj).rs⟩
theorem eq_of_getD {α : Type} {a b : List α} (d : α) (hl : a.length = b.length) (h : ∀ j, j < a.length → a.getD j d = b.getD j d) : a = b := by
 apply List.ext_getElem hl
 intro i h1 h2
 have := h i h1
 rwa [List.getD_eq_getElem?_getD, List.getD_eq_getElem?_getD, List.getElem?_eq_getElem h1, List.getElem?_eq_getElem h2] at this
set_option maxRecDepth 100000 in
set_option maxHeartbeats 4000000 in
theorem texts_any (u1 u2 : Value) (a b : List (List UInt8)) (w : World) (h1 : RS w u1 a) (h2 : RS w u2 b) (hl : a.length ≤ 1000000) :
  Calls Tryd.prog 12 #[u1, u2] w fun e w' => Kept w w' ∧ e = .returned (.bool (decide (a = b))) := by
 obtain ⟨ao, c, rfl, h1⟩ := h1
 obtain ⟨ao', c', rfl, h2⟩ := h2
 obtain ⟨n, hn⟩ : ∃ n, n = a.length := ⟨_, rfl⟩
 rw [← hn] at h1 hl ⊢
 by_cases hne : n = b.length
 ·
  rw [← hne] at h2 ⊢
  have HN := hid' (And.intro hn hne)
  have H1 := hid' h1
  have H2 := hid' h2
  clear hn hne h1 h2
  go_enter Tryd.func12, Tryd.ntmps12
  go_wp2_with fail
  go_loopw [5] (fun vi wr => ∃ k : Nat, k ≤ n ∧ vi = .int .i64 (k : Int) ∧ Hid (Kept w wr ∧ ∀ j, j < k → a.getD j [] = b.getD j [])) (fun vi _ => n - (intOf vi).toNat)
  case atStart => exact ⟨0, Nat.zero_le _, rfl, Kept.refl _, fun j hj => absurd hj (Nat.not_lt_zero _)⟩
  case round =>
   obtain ⟨k, hk, rfl, H⟩ := hrel
   by_cases hlt : k < n
   ·
    have hi : (k : Int) < (n : Int) := by omega
    have hn0 : 0 < n := by omega
    obtain ⟨b1, o1, rfl, hb1, hc1⟩ := H1.out hn0
    obtain ⟨b2, o2, rfl, hb2, hc2⟩ := H2.out hn0
    have q1 := (Below.cell H.out.1 (p := ⟨b1, o1 + k, none⟩) hb1).trans (hc1 k hlt)
    have q2 := (Below.cell H.out.1 (p := ⟨b2, o2 + k, none⟩) hb2).trans (hc2 k hlt)
    obtain ⟨x, hx⟩ : ∃ x, x = a.getD k [] := ⟨_, rfl⟩
    obtain ⟨y, hy⟩ : ∃ y, y = b.getD k [] := ⟨_, rfl⟩
    rw [← hx] at q1
    rw [← hy] at q2
    have HX := hid' (And.intro hx hy)
    have e1 : (bs x).toList = x := by rw [ByteArray.toList_eq, bs_list]
    have e2 : (bs y).toList = y := by rw [ByteArray.toList_eq, bs_list]
    clear hx hy hb1 hb2 hc1 hc2
    generalize bs x = t1 at q1 e1
    generalize bs y = t2 at q2 e2
    by_cases hxy : x = y
    ·
     subst hxy
     have hq : t1.toList = t2.toList := by rw [e1, e2]
     have hq' : (t1.toList == t2.toList) = true := by rw [hq]; simp
     clear e1 e2 hq
     go_wp2_with fail
     go_quiet (fail)
     go_wp2_with fail
     go_roundw
     case rel =>
      refine ⟨k + 1, by omega, by go_num, H.out.1.drewN _, fun j hj => ?_⟩
      by_cases e : j = k
      ·
       subst e; rw [← HX.out.1, ← HX.out.2]
      ·
       exact H.out.2 j (by omega)
     case measure => show n - ((k : Int) + 1).toNat < n - (k : Int).toNat; omega
    ·
     have hq : ¬ t1.toList = t2.toList := by rw [e1, e2]; exact hxy
     have hq' : (t1.toList == t2.toList) = false := by simpa using hq
     have HD := hid' (show decide (a = b) = false from decide_eq_false (fun e => hxy (by rw [HX.out.1, HX.out.2, e])))
     clear e1 e2 hq hxy
     go_wp2_with fail
     go_quiet (fail)
     go_wp2_with fail
     go_ret
     exact ⟨H.out.1.drewN _, by rw [HD.out]; rfl⟩
   ·
    have hi : ¬ (k : Int) < (n : Int) := by omega
    have HD := hid' (show decide (a = b) = true from decide_eq_true (eq_of_getD [] (by rw [← HN.out.1, ← HN.out.2]) (fun j hj => H.out.2 j (by rw [← HN.out.1] at hj; omega))))
    go_wp2_with fail
    go_ret
    exact ⟨H.out.1, by rw [HD.out]; rfl⟩
 ·
  have hz : ¬ (n : Int) = (b.length : Int) := by omega
  have hz' : ((n : Int) == (b.length : Int)) = false := by simpa using hz
  have HD := hid' (show decide (a = b) = false from decide_eq_false (fun e => hne (by rw [hn, e])))
  clear hn h1 h2
  generalize b.length = m at *
  go_enter Tryd.func12, Tryd.ntmps12
  go_wp2_with fail
  go_ret
  exact ⟨Kept.refl _, by rw [HD.out]; rfl⟩
open Go.Sort (grow) in
set_option maxRecDepth 100000 in
set_option maxHeartbeats 8000000 in
theorem same_any (u1 u2 : Value) (a b : List Ln) (w : World) (h1 : RL w u1 a) (h2 : RL w u2 b) (hl : a.length ≤ 1000000) (hw : ∀ x ∈ a, x.2.length ≤ 1000000) :
  Calls Tryd.prog 11 #[u1, u2] w fun e w' => Kept w w' ∧ e = .returned (.bool (decide (a = b))) := by
 obtain ⟨ao, c, rfl, h1⟩ := h1
 obtain ⟨ao', c', rfl, h2⟩ := h2
 obtain ⟨n, hn⟩ : ∃ n, n = a.length := ⟨_, rfl⟩
 rw [← hn] at h1 hl ⊢
 by_cases hne : n = b.length
 ·
  rw [← hne] at h2 ⊢
  have HN := hid' (And.intro hn hne)
  have H1 := hid' h1
  have H2 := hid' h2
  clear hn hne h1 h2
  go_enter Tryd.func11, Tryd.ntmps11
  go_wp2_with fail
  go_loopw [5] (fun vi wr => ∃ k : Nat, k ≤ n ∧ vi = .int .i64 (k : Int) ∧ Hid (Kept w wr ∧ ∀ j, j < k → a.getD j (0, []) = b.getD j (0, []))) (fun vi _ => n - (intOf vi).toNat)
  case atStart => exact ⟨0, Nat.zero_le _, rfl, Kept.refl _, fun j hj => absurd hj (Nat.not_lt_zero _)⟩
  case round =>
   obtain ⟨k, hk, rfl, H⟩ := hrel
   by_cases hlt : k < n
   ·
    have hi : (k : Int) < (n : Int) := by omega
    have hn0 : 0 < n := by omega
    obtain ⟨b1, o1, rfl, hb1, hc1⟩ := H1.out hn0
    obtain ⟨b2, o2, rfl, hb2, hc2⟩ := H2.out hn0
    obtain ⟨p1, v1, p1', R1⟩ := hc1 k hlt
    obtain ⟨p2, v2, p2', R2⟩ := hc2 k hlt
    have hxw : (a.getD k (0, [])).2.length ≤ 1000000 := by
     have hka : k < a.length := by rw [← HN.out.1]; exact hlt
     rw [List.getD_eq_getElem?_getD, List.getElem?_eq_getElem hka]
     exact hw _ (List.getElem_mem hka)
    obtain ⟨x, hx⟩ : ∃ x, x = a.getD k (0, []) := ⟨_, rfl⟩
    obtain ⟨y, hy⟩ : ∃ y, y = b.getD k (0, []) := ⟨_, rfl⟩
    rw [← hx] at p1 R1 hxw
    rw [← hy] at p2 R2
    obtain ⟨xa, xw⟩ := x
    obtain ⟨ya, yw⟩ := y
    have HX := hid' (And.intro hx hy)
    simp only at p1 p2 R1 R2 hxw
    go_upto_region 6 with fail
    have KR : ∀ d os, Kept w (grow (redrawn wr d) os) := fun d os => H.out.1.trans (below_regrown wr d os)
    have r1 : ∀ d os, (grow (redrawn wr d) os).cell? ⟨b1, o1 + k * 2, none⟩ = some (.int .i64 (xa : Int)) := fun d os => (Below.cell (KR d os) (p := ⟨b1, o1 + k * 2, none⟩) hb1).trans p1
    have r2 : ∀ d os, (grow (redrawn wr d) os).cell? ⟨b1, o1 + k * 2 + 1, none⟩ = some v1 := fun d os => (Below.cell (KR d os) (p := ⟨b1, o1 + k * 2 + 1, none⟩) hb1).trans p1'
    have r3 : ∀ d os, (grow (redrawn wr d) os).cell? ⟨b2, o2 + k * 2, none⟩ = some (.int .i64 (ya : Int)) := fun d os => (Below.cell (KR d os) (p := ⟨b2, o2 + k * 2, none⟩) hb2).trans p2
    have r4 : ∀ d os, (grow (redrawn wr d) os).cell? ⟨b2, o2 + k * 2 + 1, none⟩ = some v2 := fun d os => (Below.cell (KR d os) (p := ⟨b2, o2 + k * 2 + 1, none⟩) hb2).trans p2'
    have cS : ∀ d os, Calls Tryd.prog 12 #[v1, v2] (grow (redrawn wr d) os) fun e w'' => e = .returned (.bool (decide (xw = yw))) ∧ ∃ p : Regrown, w'' = grow (redrawn wr p.d) p.os := fun d os =>
     Calls.regrown_of ((texts_any v1 v2 xw yw _ (R1.kept (KR d os)) (R2.kept (KR d os)) hxw).mono fun e w' h => ⟨h.2, h.1⟩)
    obtain ⟨ao3, c3, rfl, _⟩ := R1
    obtain ⟨ao4, c4, rfl, _⟩ := R2
    have HKR := hid' KR
    clear KR p1 p1' p2 p2' hc1 hc2 hb1 hb2 hx hy
    obtain ⟨bt, hbt⟩ : ∃ bt, bt = decide (xw = yw) := ⟨_, rfl⟩
    rw [← hbt] at cS
    have HBT := hid' hbt
    clear hbt
    by_cases hxy : (xa : Int) = (ya : Int)
    ·
     have hxy' : ((xa : Int) == (ya : Int)) = true := by simpa using hxy
     cases bt
     ·
      refine wp_region_quiet_below (by kernel_rfl) (by kernel_rfl) ?_
      repeat (quiet_step (exact cS _ _))
      refine wpQuiet_nil ?_
      intro _ hw'
      obtain ⟨⟨dq, osq⟩, hw''⟩ := hw'
      subst hw''
      go_wp2_with fail
      go_ret
      refine ⟨HKR.out dq osq, ?_⟩
      rw [show decide (a = b) = false from decide_eq_false (fun e => by
       have h1 := HX.out.1
       rw [e, ← HX.out.2] at h1
       cases h1
       exact absurd HBT.out (by simp))]
      rfl
     ·
      refine wp_region_quiet_below (by kernel_rfl) (by kernel_rfl) ?_
      repeat (quiet_step (exact cS _ _))
      refine wpQuiet_nil ?_
      intro _ hw'
      obtain ⟨⟨dq, osq⟩, hw''⟩ := hw'
      subst hw''
      go_wp2_with fail
      go_roundw
      case rel =>
       refine ⟨k + 1, by omega, by go_num, HKR.out dq osq, fun j hj => ?_⟩
       by_cases e : j = k
       ·
        subst e
        rw [← HX.out.1, ← HX.out.2]
        have h1 := HBT.out
        have h2 : xw = yw := by simpa using h1.symm
        have h3 : xa = ya := by omega
        rw [h2, h3]
       ·
        exact H.out.2 j (by omega)
      case measure => show n - ((k : Int) + 1).toNat < n - (k : Int).toNat; omega
    ·
     have hxy' : ((xa : Int) == (ya : Int)) = false := by simpa using hxy
     clear cS
     refine wp_region_quiet_below (by kernel_rfl) (by kernel_rfl) ?_
     repeat (quiet_step (fail))
     refine wpQuiet_nil ?_
     intro _ hw'
     obtain ⟨⟨dq, osq⟩, hw''⟩ := hw'
     subst hw''
     go_wp2_with fail
     go_ret
     refine ⟨HKR.out dq osq, ?_⟩
     rw [show decide (a = b) = false from decide_eq_false (fun e => by
      have h1 := HX.out.1
      rw [e, ← HX.out.2] at h1
      cases h1
      exact hxy rfl)]
     rfl
   ·
    have hi : ¬ (k : Int) < (n : Int) := by omega
    have HD := hid' (show decide (a = b) = true from decide_eq_true (eq_of_getD (0, []) (by rw [← HN.out.1, ← HN.out.2]) (fun j hj => H.out.2 j (by rw [← HN.out.1] at hj; omega))))
    go_wp2_with fail
    go_ret
    exact ⟨H.out.1, by rw [HD.out]; rfl⟩
 ·
  have hz : ¬ (n : Int) = (b.length : Int) := by omega
  have hz' : ((n : Int) == (b.length : Int)) = false := by simpa using hz
  have HD := hid' (show decide (a = b) = false from decide_eq_false (fun e => hne (by rw [hn, e])))
  clear hn h1 h2
  generalize b.length = m at *
  go_enter Tryd.func11, Tryd.ntmps11
  go_wp2_with fail
  go_ret
  exact ⟨Kept.refl _, by rw [HD.out]; rfl⟩
end X
end Go.Proofs.YtbmmiepjkamaeaaDoor

namespace Go.Proofs.YtbmmiepjkamaeaaDoor
open Go.RowKit
namespace X
def awk : List Ln := [(2, [[114, 49], [97], [98]]), (4, [[120]])]
theorem awk_lines : linesOf [42, 32, 116, 10, 82, 49, 32, 97, 10, 43, 32, 66, 59, 99, 10, 120] = (awk, 0, 0) := by decide +kernel
theorem al_new (W : World) (C : Array Value) (t : TypeId) (b j : Nat) (u : Value) (hb : b = W.heap.size) (hj : C[j]? = some u) : (W.alloc (.cells C t)).cell? ⟨b, j, none⟩ = some u := by
 subst hb
 exact (World.cell?_alloc_mark W C t (0, 0) j).trans hj
theorem al_old {W : World} {b j : Nat} {u : Value} (o : Obj) (h : W.cell? ⟨b, j, none⟩ = some u) : (W.alloc o).cell? ⟨b, j, none⟩ = some u :=
 (World.cell?_alloc_old W o ⟨b, j, none⟩ (Nat.ne_of_lt (World.block_lt_of_cell? _ _ h))).trans h
theorem awk_rl (w : World) : RL (((w.alloc (.cells #[.string ⟨#[114, 49]⟩, .string ⟨#[97]⟩, .string ⟨#[98]⟩] 9)).alloc (.cells #[.string ⟨#[120]⟩] 9)).alloc (.cells #[.int .i64 2, .slice (some ⟨w.heap.size, 0, none⟩) 3 3, .int .i64 4, .slice (some ⟨w.heap.size + 1, 0, none⟩) 1 1] 32)) (.slice (some ⟨w.heap.size + 1 + 1, 0, none⟩) 2 2) awk := by
 refine ⟨_, 2, rfl, fun _ => ⟨w.heap.size + 1 + 1, 0, rfl, by simp, fun j hj => ?_⟩⟩
 have hj : j < 2 := hj
 rcases (show j = 0 ∨ j = 1 by omega) with rfl | rfl
 ·
  refine ⟨al_new _ _ _ _ _ _ (by simp) rfl, .slice (some ⟨w.heap.size, 0, none⟩) 3 3, al_new _ _ _ _ _ _ (by simp) rfl, some ⟨w.heap.size, 0, none⟩, 3, rfl, fun _ => ⟨w.heap.size, 0, rfl, by simp; omega, fun i hi => ?_⟩⟩
  have hi : i < 3 := hi
  rcases (show i = 0 ∨ i = 1 ∨ i = 2 by omega) with rfl | rfl | rfl
  ·
   exact al_old _ (al_old _ (al_new _ _ _ _ _ _ rfl rfl))
  ·
   exact al_old _ (al_old _ (al_new _ _ _ _ _ _ rfl rfl))
  ·
   exact al_old _ (al_old _ (al_new _ _ _ _ _ _ rfl rfl))
 ·
  refine ⟨al_new _ _ _ _ _ _ (by simp) rfl, .slice (some ⟨w.heap.size + 1, 0, none⟩) 1 1, al_new _ _ _ _ _ _ (by simp) rfl, some ⟨w.heap.size + 1, 0, none⟩, 1, rfl, fun _ => ⟨w.heap.size + 1, 0, rfl, by simp, fun i hi => ?_⟩⟩
  have hi : i < 1 := hi
  obtain rfl : i = 0 := by omega
  exact al_old _ (al_new _ _ _ _ _ _ (by simp) rfl)
set_option maxRecDepth 100000 in
set_option maxHeartbeats 4000000 in
theorem awake_any (w : World) : Calls Tryd.prog 8 #[] w fun e w' => Kept w w' ∧ e = .returned (.bool true) := by
 have hL := lines_any ⟨#[42, 32, 116, 10, 82, 49, 32, 97, 10, 43, 32, 66, 59, 99, 10, 120]⟩ w (by decide)
 rw [show (⟨#[42, 32, 116, 10, 82, 49, 32, 97, 10, 43, 32, 66, 59, 99, 10, 120]⟩ : ByteArray).data.toList = [42, 32, 116, 10, 82, 49, 32, 97, 10, 43, 32, 66, 59, 99, 10, 120] from rfl, awk_lines] at hL
 go_enter Tryd.func8, Tryd.ntmps8
 go_wp2_with fail
 refine hL.mono ?_
 rintro e w1 ⟨hk, v, vs, rfl, own⟩
 have HK := hid' (And.intro hk own.rl)
 clear hk own hL
 go_wp2_with fail
 have hA := awk_rl w1
 have hK2 := ((((Kept.refl w1).alloc (.cells #[.string ⟨#[114, 49]⟩, .string ⟨#[97]⟩, .string ⟨#[98]⟩] 9)).alloc (.cells #[.string ⟨#[120]⟩] 9)).alloc (.cells #[.int .i64 2, .slice (some ⟨w1.heap.size, 0, none⟩) 3 3, .int .i64 4, .slice (some ⟨w1.heap.size + 1, 0, none⟩) 1 1] 32))
 refine (same_any _ _ awk awk _ (HK.out.2.kept hK2) hA (by decide) (by decide)).mono ?_
 rintro e w2 ⟨hk2, rfl⟩
 have HK2 := hid' ((HK.out.1.trans hK2).trans hk2)
 rw [decide_eq_true (rfl : awk = awk)]
 clear hA hK2 hk2
 go_wp2_with fail
 go_ret
 exact ⟨HK2.out, rfl⟩
end X
end Go.Proofs.YtbmmiepjkamaeaaDoor

namespace Go.Proofs.YtbmmiepjkamaeaaDoor
open Go.RowKit
namespace X
def mpTo (f : UInt8 → UInt8) (k : Nat) (l : List UInt8) : List UInt8 := (l.take k).map f ++ l.drop k
section
variable (f : UInt8 → UInt8)
end
theorem LnIs.rl {B : Nat} {w : World} {e : Ending} {r : List Ln × Nat × Nat} (h : LnIs B w e r) : ∃ v, e = .returned (.tuple #[v, .int .i64 (r.2.1 : Int), .int .i64 (r.2.2 : Int)]) ∧ RL w v r.1 := by
 obtain ⟨v, vs, he, own⟩ := h
 exact ⟨v, he, own.rl⟩
theorem lines_sizes (T : List UInt8) : (linesOf T).1.length ≤ 70000 ∧ (linesOf T).2.1 ≤ 70000 ∧ ∀ x ∈ (linesOf T).1, x.2.length ≤ 64 := by
 by_cases h : 65536 < T.length
 ·
  rw [lines_long h]; exact ⟨by decide, by decide, fun x hx => by simp at hx⟩
 ·
  have hc := cut10_len_le T
  refine ⟨?_, ?_, fun x hx => ((lines_ok T).1 x hx).2.1⟩
  ·
   rw [lines_go h]
   have key : ∀ (ls : List (List UInt8)) (told : List Ln) (n : Nat), (go told n ls).1.length ≤ told.length + ls.length := by
    intro ls
    induction ls with
    | nil => intro told n; exact Nat.le_refl _
    | cons l ls ih =>
     intro told n
     rw [go]
     rcases ht : tk told (n + 1) l with e | t
     ·
      simp
     ·
      have h1 := ih t (n + 1)
      have h2 := tk_len ht
      simp only [List.length_cons]
      omega
   have := key (cut10 T) [] 0
   simp at this
   omega
  ·
   rw [lines_go h]
   have := go_place (cut10 T) [] 0
   omega
end X
end Go.Proofs.YtbmmiepjkamaeaaDoor

namespace Go.Proofs.YtbmmiepjkamaeaaDoor
open Go.RowKit
namespace X
set_option maxHeartbeats 2000000 in
theorem blank_any (z : Int) (w : World) : Calls Tryd.prog 16 #[.int .u8 z] w fun e w' => w' = w ∧ e = .returned (.bool (isBI z)) := by
 go_enter Tryd.func16, Tryd.ntmps16
 go_wp2
 all_goals
  go_ret
  refine ⟨rfl, congrArg (fun b => Ending.returned (Value.bool b)) ?_⟩
  unfold isBI
  rw [Bool.eq_iff_iff]
  simp_all
def u8s (l : List UInt8) : List Value := l.map fun c => .int .u8 (c.toNat : Int)
theorem info_u8 : (Tryd.prog.info? 5).map (fun i => (i.zero, i.size, i.bytes)) = some (some (.int .u8 0), 1, 1) := by kernel_rfl
theorem und_bytes : Tryd.prog.underlying 35 = some (.slice 5) := by kernel_rfl
theorem u8_wrap {c : UInt8} (h1 : 65 ≤ c.toNat) (h2 : c.toNat ≤ 90) : IntKind.u8.wrap ((c.toNat : Int) + 32) = ((sm c).toNat : Int) := by
 unfold sm
 rw [if_pos ⟨h1, h2⟩, UInt8.toNat_add]
 show ((c.toNat : Int) + 32) % 256 = _
 simp
structure WoI (w wr : World) (v : Value) (l : List UInt8) : Prop where
 kp : Kept w wr
 own : wr.ownsRow w.heap.size 5 1 v l.length (u8s l)
set_option maxRecDepth 100000 in
set_option maxHeartbeats 4000000 in
theorem word_any (s : ByteArray) (w : World) (hs : s.size ≤ 65536) (h0 : 0 < s.size) : Calls Tryd.prog 23 #[.string s] w fun e w' => Kept w w' ∧ e = .returned (.string (bs (s.data.toList.map sm))) := by
 obtain ⟨i0, hi0, hz0, hz1, hz2⟩ := info_parts info_u8
 go_enter Tryd.func23, Tryd.ntmps23
 go_wp2_with fail
 go_loopw [3, 4] (fun vb vi wr => ∃ k : Nat, k ≤ s.size ∧ vi = .int .i64 (k : Int) ∧ Hid (WoI w wr vb ((s.data.toList.take k).map sm))) (fun _ vi _ => s.size - (intOf vi).toNat)
 case atStart => exact ⟨0, Nat.zero_le _, rfl, Kept.refl _, World.ownsRow_nil _ _ _ _⟩
 case round =>
  obtain ⟨k, hk, rfl, H⟩ := hrel
  by_cases hlt : k < s.size
  ·
   have hi : (k : Int) < (s.size : Int) := by omega
   have htk : (s.data.toList.take (k + 1)).map sm = (s.data.toList.take k).map sm ++ [sm s[k]] := by rw [take_at s k hlt, List.map_append]; rfl
   have hlen : ((s.data.toList.take k).map sm).length = k := by rw [List.length_map, List.length_take, len_list]; omega
   have hml : k + 1 ≤ maxLen := by unfold maxLen; omega
   have hml2 : (k + 1) * 1 ≤ 140737488355328 := by omega
   obtain ⟨pl, hpl⟩ : ∃ pl, pl = (s.data.toList.take k).map sm := ⟨_, rfl⟩
   rw [← hpl] at htk hlen H
   have hoo := H.out.own
   rw [hlen] at hoo
   have HOO := hid' hoo
   have HT := hid' htk
   obtain ⟨c, hc⟩ : ∃ c, c = s[k] := ⟨_, rfl⟩
   have HC := hid' hc
   have hKs := H.out.kp.size
   have fin : ∀ (z : Int) (v' : Value) (w2 : World), z = ((sm c).toNat : Int) → w2.ownsRow w.heap.size 5 1 v' (k + 1) (u8s pl ++ [.int .u8 z]) → (wr.alloc (.cells #[.int .u8 z] 5)).grownBy w2 u3.ownBlock → WoI w w2 v' ((s.data.toList.take (k + 1)).map sm) := by
    intro z v' w2 hz hown hg
    subst hz
    refine ⟨Below.grown (H.out.kp.alloc _) hg (by simp; omega) (fun j hj => (H.out.own.lt j hj).1), ?_⟩
    rw [HT.out, ← HC.out, List.length_append, hlen]
    have : u8s (pl ++ [sm c]) = u8s pl ++ [.int .u8 ((sm c).toNat : Int)] := by unfold u8s; rw [List.map_append]; rfl
    rw [this]
    exact hown
   have HF := hid' fin
   clear htk hlen fin hpl hoo
   by_cases h1 : 65 ≤ s[k].toNat
   ·
    have h1' : (65 : Int) ≤ (s[k].toNat : Int) := by omega
    by_cases h2 : s[k].toNat ≤ 90
    ·
     have h2' : (s[k].toNat : Int) ≤ 90 := by omega
     have hw := u8_wrap h1 h2
     rw [← hc] at hw h1' h2'
     have HE := hid' hw
     generalize hzz : ((sm c).toNat : Int) = zz at hw
     have HZZ := hid' hzz
     clear h1 h2 hzz
     have hsz : w.heap.size ≤ (wr.alloc (.cells #[.int .u8 zz] 5)).heap.size := by simp; omega
     rw [hc] at hw h1' h2'
     clear hc
     go_wp2_with (at_builtin; refine wpList_append_own _ rfl _ _ 35 rfl w.heap.size 5 i0 (.int .u8 0) 1 1 und_bytes hi0 hz0 hz1 hz2 rfl (by decide) _ _ _ rfl (HOO.out.alloc _) ⟨wr.heap.size, 0, none⟩ 1 1 [.int .u8 zz] rfl rfl (cell_new wr _ _) (fun x hx => by simp at hx; subst hx; rfl) hml hml2 (by exact hsz) ?_)
     intro v' w2 hown' hgrow _
     have HN := hid' (HF.out zz v' w2 HZZ.out.symm hown' hgrow)
     clear hown' hgrow hsz hml hml2
     go_wp2_with fail
     go_roundw
     case rel => exact ⟨k + 1, by omega, by go_num, HN.out⟩
     case measure => show s.size - ((k : Int) + 1).toNat < s.size - (k : Int).toNat; omega
    ·
     have h2' : ¬ (s[k].toNat : Int) ≤ 90 := by omega
     have HE := hid' (show (s[k].toNat : Int) = ((sm c).toNat : Int) by rw [hc]; unfold sm; rw [if_neg (by omega)])
     have hsz : w.heap.size ≤ (wr.alloc (.cells #[.int .u8 (s[k].toNat : Int)] 5)).heap.size := by simp; omega
     clear h1 h2 hc
     go_wp2_with (at_builtin; refine wpList_append_own _ rfl _ _ 35 rfl w.heap.size 5 i0 (.int .u8 0) 1 1 und_bytes hi0 hz0 hz1 hz2 rfl (by decide) _ _ _ rfl (HOO.out.alloc _) ⟨wr.heap.size, 0, none⟩ 1 1 [.int .u8 (s[k].toNat : Int)] rfl rfl (cell_new wr _ _) (fun x hx => by simp at hx; subst hx; rfl) hml hml2 (by exact hsz) ?_)
     intro v' w2 hown' hgrow _
     have HN := hid' (HF.out _ v' w2 HE.out hown' hgrow)
     clear hown' hgrow hsz hml hml2
     go_wp2_with fail
     go_roundw
     case rel => exact ⟨k + 1, by omega, by go_num, HN.out⟩
     case measure => show s.size - ((k : Int) + 1).toNat < s.size - (k : Int).toNat; omega
   ·
    have h1' : ¬ (65 : Int) ≤ (s[k].toNat : Int) := by omega
    have HE := hid' (show (s[k].toNat : Int) = ((sm c).toNat : Int) by rw [hc]; unfold sm; rw [if_neg (by omega)])
    have hsz : w.heap.size ≤ (wr.alloc (.cells #[.int .u8 (s[k].toNat : Int)] 5)).heap.size := by simp; omega
    clear h1 hc
    go_wp2_with (at_builtin; refine wpList_append_own _ rfl _ _ 35 rfl w.heap.size 5 i0 (.int .u8 0) 1 1 und_bytes hi0 hz0 hz1 hz2 rfl (by decide) _ _ _ rfl (HOO.out.alloc _) ⟨wr.heap.size, 0, none⟩ 1 1 [.int .u8 (s[k].toNat : Int)] rfl rfl (cell_new wr _ _) (fun x hx => by simp at hx; subst hx; rfl) hml hml2 (by exact hsz) ?_)
    intro v' w2 hown' hgrow _
    have HN := hid' (HF.out _ v' w2 HE.out hown' hgrow)
    clear hown' hgrow hsz hml hml2
    go_wp2_with fail
    go_roundw
    case rel => exact ⟨k + 1, by omega, by go_num, HN.out⟩
    case measure => show s.size - ((k : Int) + 1).toNat < s.size - (k : Int).toNat; omega
  ·
   have hi : ¬ (k : Int) < (s.size : Int) := by omega
   have ho := H.out.own
   rw [List.take_of_length_le (by rw [len_list]; omega)] at ho
   have hl : (s.data.toList.map sm).length = s.size := by rw [List.length_map, len_list]
   rw [hl] at ho
   obtain ⟨g, cap, rfl, hgB, hgl⟩ := ho.form h0
   have hB : BRow wr g (s.data.toList.map sm) := ⟨hgl, fun j hj => ⟨owns_cell ho (by
    unfold u8s
    rw [List.getElem?_map, List.getElem?_eq_getElem hj, List.getD_eq_getElem?_getD, List.getElem?_eq_getElem hj]; rfl), owns_frozen ho j⟩⟩
   have hcv := hB.string (P := Tryd.prog) 35 5 9 Tryd.underlying35 Tryd.underlying5 Tryd.underlying9 s.size cap hl.symm
   have HK := hid' H.out.kp
   clear hB ho hl
   go_wp2_with fail
   go_ret
   exact ⟨HK.out, rfl⟩
end X
end Go.Proofs.YtbmmiepjkamaeaaDoor

namespace Go.Proofs.YtbmmiepjkamaeaaDoor
open Go.RowKit
namespace X
def curOf (L : List UInt8) (fr : Int) (k : Nat) : List UInt8 := if fr < 0 then [] else (L.take k).drop fr.toNat
theorem cur_neg (L : List UInt8) (k : Nat) : curOf L (-1) k = [] := if_pos (by decide)
theorem cur_at (L : List UInt8) (f k : Nat) : curOf L (f : Int) k = (L.take k).drop f := by
  unfold curOf
  rw [if_neg (by omega)]
  simp
structure RwI (w wr : World) (L : List UInt8) (v : Value) (fr : Int) (k : Nat) (ws : List (List UInt8)) : Prop where
  kp : Kept w wr
  own : OwnS w.heap.size wr v ws
  eq : wordsL L = ws ++ wd (curOf L fr k) (said (L.drop k))
  len : ws.length ≤ k
theorem said_at {s : ByteArray} {k : Nat} (h : k < s.size) (hr : isR s[k] = false) : said (s.data.toList.drop k) = s[k] :: said (s.data.toList.drop (k + 1)) := by
  rw [drop_at s k h]
  unfold said
  rw [List.takeWhile_cons, hr]
  rfl
theorem said_end {s : ByteArray} {k : Nat} (h : k < s.size) (hr : isR s[k] = true) : said (s.data.toList.drop k) = [] := by
  rw [drop_at s k h]
  unfold said
  rw [List.takeWhile_cons, hr]
  rfl
set_option maxRecDepth 100000 in
set_option maxHeartbeats 8000000 in
theorem rwords_any (s : ByteArray) (w : World) (hs : s.size ≤ 65536) : Calls Tryd.prog 17 #[.string s] w fun e w' => Kept w w' ∧ ∃ v, e = .returned v ∧ OwnS w.heap.size w' v (wordsL s.data.toList) := by
  obtain ⟨i0, hi0, hz0, hz1, hz2⟩ := info_parts info_str
  go_enter Tryd.func17, Tryd.ntmps17
  go_wp2_with fail
  go_loopw [3, 4, 5] (fun vv vf vi wr => ∃ (k : Nat) (fr : Int) (ws : List (List UInt8)), k ≤ s.size + 1 ∧ (fr = -1 ∨ ∃ f : Nat, fr = (f : Int) ∧ f < k ∧ k ≤ s.size) ∧ vf = .int .i64 fr ∧ vi = .int .i64 (k : Int) ∧ Hid (RwI w wr s.data.toList vv fr k ws)) (fun _ _ vi _ => s.size + 1 - (intOf vi).toNat)
  case atStart => exact ⟨0, -1, [], by omega, .inl rfl, rfl, rfl, Kept.refl _, OwnS.nil _ _, by rw [cur_neg, List.drop_zero]; rfl, Nat.le_refl _⟩
  case round =>
    obtain ⟨k, fr, ws, hk, hfr, rfl, rfl, H⟩ := hrel
    by_cases hle : k ≤ s.size
    · have hle' : (k : Int) ≤ (s.size : Int) := by omega
      have hml : ws.length + 1 ≤ maxLen := by have := H.out.len; unfold maxLen; omega
      have hml2 : (ws.length + 1) * 16 ≤ 140737488355328 := by have := H.out.len; omega
      -- a word ends here
      have wend : Hid (∀ f : Nat, fr = (f : Int) → f < k → emit (curOf s.data.toList fr k) = [(s.extract f k).data.toList.map sm] ∧ 0 < (s.extract f k).size ∧ (s.extract f k).size ≤ 65536) := by
        rintro f rfl hf
        have hl : (s.extract f k).size = k - f := by rw [ByteArray.size_extract]; omega
        rw [cur_at, ← ext_part]
        refine ⟨?_, by omega, by omega⟩
        unfold emit
        rw [if_neg]
        intro e
        have := congrArg List.length e
        rw [len_list, hl, List.length_nil] at this
        omega
      by_cases hlt : k < s.size
      · have hlt' : (k : Int) < (s.size : Int) := by omega
        have hne : ¬ (k : Int) = (s.size : Int) := by omega
        have hne' : ((k : Int) == (s.size : Int)) = false := by simpa using hne
--@@LT
        by_cases h59 : (s[k].toNat : Int) = 59
        · have hsd := said_end hlt (by unfold isR; exact decide_eq_true (by omega))
          rcases hfr with rfl | hfr
          · go_wp2_with fail
            go_ret
            exact ⟨H.out.kp, _, rfl, by rw [H.out.eq, cur_neg, hsd]; exact (congrArg (OwnS w.heap.size _ _) (List.append_nil ws).symm) ▸ H.out.own⟩
          · skip
            obtain ⟨f, rfl, hf, _⟩ := hfr
            have hwe := wend.out f rfl hf
            have HWE := hid' hwe.1
            have f0 : ¬ (f : Int) < 0 := by omega
            have f1 : (0 : Int) ≤ (f : Int) := by omega
            have f2 : (f : Int) ≤ (k : Int) := by omega
            go_wp2_with fail
            refine (word_any (s.extract f k) _ hwe.2.2 hwe.2.1).mono ?_
            rintro e w1 ⟨hk1, rfl⟩
            have HK1 := hid' hk1
            have hsz : w.heap.size ≤ (w1.alloc (.cells #[.string (bs ((s.extract f k).data.toList.map sm))] 9)).heap.size := by
              have h1 := hk1.size
              have h2 := H.out.kp.size
              simp
              omega
            clear hk1 hwe wend
            generalize (s.extract f k).data.toList.map sm = nw at HWE hsz ⊢
            go_wp2_with (at_builtin; refine wpList_append_own _ rfl _ _ 30 rfl w.heap.size 9 i0 (.string ByteArray.empty) 1 16 und_strs hi0 hz0 hz1 hz2 rfl (by decide) _ _ _ rfl ((H.out.own.kept HK1.out).alloc _) ⟨w1.heap.size, 0, none⟩ 1 1 [.string (bs nw)] rfl rfl (cell_new w1 _ _) (fun x hx => by simp at hx; subst hx; rfl) hml hml2 (by exact hsz) ?_)
            intro v' w2 hown' hgrow _
            have HN : Hid (Kept w w2 ∧ OwnS w.heap.size w2 v' (ws ++ emit (curOf s.data.toList (f : Int) k))) := by
              refine ⟨Below.grown ((H.out.kp.trans HK1.out).alloc _) hgrow (by exact hsz) (fun j hj => (H.out.own.lt j hj).1), ?_⟩
              rw [HWE.out]
              unfold OwnS
              rw [strs_app, List.length_append]
              exact hown'
            have HL := hid' (show (ws ++ emit (curOf s.data.toList (f : Int) k)).length ≤ k + 1 by rw [HWE.out, List.length_append]; have := H.out.len; simp; omega)
            clear hown' hgrow hsz hml hml2
            go_wp2_with fail
            go_ret
            exact ⟨HN.out.1, _, rfl, by rw [H.out.eq, hsd, wd]; exact HN.out.2⟩
        · have h59' : ((s[k].toNat : Int) == 59) = false := by simpa using h59
          have hsd := said_at hlt (by unfold isR; exact decide_eq_false (by omega))
          have hbi := isBI_of s[k]
          by_cases hbl : isBI (s[k].toNat : Int) = true
          · have HB := hid' (show isB s[k] = true by rw [← hbi]; exact hbl)
            clear hbi
            rcases hfr with rfl | hfr
            · skip
              go_wp2_with fail
              refine (blank_any _ _).mono ?_
              rintro e w9 ⟨rfl, rfl⟩
              rw [hbl]
              go_wp2_with fail
              go_roundw
              case rel => exact ⟨k + 1, -1, ws, by omega, .inl rfl, rfl, by go_num, H.out.kp, H.out.own, by rw [H.out.eq, cur_neg, cur_neg, hsd, wd, if_pos HB.out]; rfl, by have := H.out.len; omega⟩
              case measure => show s.size + 1 - ((k : Int) + 1).toNat < s.size + 1 - (k : Int).toNat; omega
            · skip
              obtain ⟨f, rfl, hf, _⟩ := hfr
              have hwe := wend.out f rfl hf
              have HWE := hid' hwe.1
              have f0 : ¬ (f : Int) < 0 := by omega
              have f1 : (0 : Int) ≤ (f : Int) := by omega
              have f2 : (f : Int) ≤ (k : Int) := by omega
              go_wp2_with fail
              refine (blank_any _ _).mono ?_
              rintro e w9 ⟨rfl, rfl⟩
              rw [hbl]
              go_wp2_with fail
              refine (word_any (s.extract f k) _ hwe.2.2 hwe.2.1).mono ?_
              rintro e w1 ⟨hk1, rfl⟩
              have HK1 := hid' hk1
              have hsz : w.heap.size ≤ (w1.alloc (.cells #[.string (bs ((s.extract f k).data.toList.map sm))] 9)).heap.size := by
                have h1 := hk1.size
                have h2 := H.out.kp.size
                simp
                omega
              clear hk1 hwe wend
              generalize (s.extract f k).data.toList.map sm = nw at HWE hsz ⊢
              go_wp2_with (at_builtin; refine wpList_append_own _ rfl _ _ 30 rfl w.heap.size 9 i0 (.string ByteArray.empty) 1 16 und_strs hi0 hz0 hz1 hz2 rfl (by decide) _ _ _ rfl ((H.out.own.kept HK1.out).alloc _) ⟨w1.heap.size, 0, none⟩ 1 1 [.string (bs nw)] rfl rfl (cell_new w1 _ _) (fun x hx => by simp at hx; subst hx; rfl) hml hml2 (by exact hsz) ?_)
              intro v' w2 hown' hgrow _
              have HN : Hid (Kept w w2 ∧ OwnS w.heap.size w2 v' (ws ++ emit (curOf s.data.toList (f : Int) k))) := by
                refine ⟨Below.grown ((H.out.kp.trans HK1.out).alloc _) hgrow (by exact hsz) (fun j hj => (H.out.own.lt j hj).1), ?_⟩
                rw [HWE.out]
                unfold OwnS
                rw [strs_app, List.length_append]
                exact hown'
              have HL := hid' (show (ws ++ emit (curOf s.data.toList (f : Int) k)).length ≤ k + 1 by rw [HWE.out, List.length_append]; have := H.out.len; simp; omega)
              clear hown' hgrow hsz hml hml2
              go_wp2_with fail
              go_roundw
              case rel => exact ⟨k + 1, -1, _, by omega, .inl rfl, rfl, by go_num, HN.out.1, HN.out.2, by rw [cur_neg, H.out.eq, hsd, wd, if_pos HB.out, List.append_assoc], HL.out⟩
              case measure => show s.size + 1 - ((k : Int) + 1).toNat < s.size + 1 - (k : Int).toNat; omega
          · have hbl : isBI (s[k].toNat : Int) = false := by simpa using hbl
            have HB := hid' (show isB s[k] = false by rw [← hbi]; exact hbl)
            clear hbi
            rcases hfr with rfl | hfr
            · skip
              have HN : Hid (RwI w wr s.data.toList u3 (k : Int) (k + 1) ws) := ⟨H.out.kp, H.out.own, by
                rw [H.out.eq, cur_neg, hsd, wd, if_neg (by rw [HB.out]; decide), cur_at, part_succ s k k (Nat.le_refl _) hlt, part_none], by have := H.out.len; omega⟩
              go_wp2_with fail
              refine (blank_any _ _).mono ?_
              rintro e w9 ⟨rfl, rfl⟩
              rw [hbl]
              go_wp2_with fail
              go_roundw
              case rel => exact ⟨k + 1, (k : Int), ws, by omega, .inr ⟨k, rfl, by omega, by omega⟩, rfl, by go_num, HN.out⟩
              case measure => show s.size + 1 - ((k : Int) + 1).toNat < s.size + 1 - (k : Int).toNat; omega
            · obtain ⟨f, rfl, hf, _⟩ := hfr
              have f0 : ¬ (f : Int) < 0 := by omega
              have f1 : (0 : Int) ≤ (f : Int) := by omega
              have HN : Hid (RwI w wr s.data.toList u3 (f : Int) (k + 1) ws) := ⟨H.out.kp, H.out.own, by
                rw [H.out.eq, cur_at, hsd, wd, if_neg (by rw [HB.out]; decide), cur_at, part_succ s f k (by omega) hlt], by have := H.out.len; omega⟩
              go_wp2_with fail
              refine (blank_any _ _).mono ?_
              rintro e w9 ⟨rfl, rfl⟩
              rw [hbl]
              go_wp2_with fail
              go_roundw
              case rel => exact ⟨k + 1, (f : Int), ws, by omega, .inr ⟨f, rfl, by omega, by omega⟩, rfl, by go_num, HN.out⟩
              case measure => show s.size + 1 - ((k : Int) + 1).toNat < s.size + 1 - (k : Int).toNat; omega
      · have hke : k = s.size := by omega
--@@EQ
        subst hke
        clear hlt hle hle'
        have hlt' : ¬ (s.size : Int) < (s.size : Int) := by omega
        have hsd : said (s.data.toList.drop s.size) = [] := by rw [List.drop_of_length_le (by rw [len_list]; omega)]; rfl
        have hsd2 : said (s.data.toList.drop (s.size + 1)) = [] := by rw [List.drop_of_length_le (by rw [len_list]; omega)]; rfl
        rcases hfr with rfl | hfr
        · skip
          go_wp2_with fail
          go_roundw
          case rel => exact ⟨s.size + 1, -1, ws, by omega, .inl rfl, rfl, by go_num, H.out.kp, H.out.own, by rw [H.out.eq, cur_neg, cur_neg, hsd, hsd2], by have := H.out.len; omega⟩
          case measure => show s.size + 1 - ((s.size : Int) + 1).toNat < s.size + 1 - (s.size : Int).toNat; omega
        · skip
          obtain ⟨f, rfl, hf, _⟩ := hfr
          have hwe := wend.out f rfl hf
          have HWE := hid' hwe.1
          have f0 : ¬ (f : Int) < 0 := by omega
          have f1 : (0 : Int) ≤ (f : Int) := by omega
          have f2 : (f : Int) ≤ (s.size : Int) := by omega
          go_wp2_with fail
          refine (word_any (s.extract f s.size) _ hwe.2.2 hwe.2.1).mono ?_
          rintro e w1 ⟨hk1, rfl⟩
          have HK1 := hid' hk1
          have hsz : w.heap.size ≤ (w1.alloc (.cells #[.string (bs ((s.extract f s.size).data.toList.map sm))] 9)).heap.size := by
            have h1 := hk1.size
            have h2 := H.out.kp.size
            simp
            omega
          clear hk1 hwe wend
          generalize (s.extract f s.size).data.toList.map sm = nw at HWE hsz ⊢
          go_wp2_with (at_builtin; refine wpList_append_own _ rfl _ _ 30 rfl w.heap.size 9 i0 (.string ByteArray.empty) 1 16 und_strs hi0 hz0 hz1 hz2 rfl (by decide) _ _ _ rfl ((H.out.own.kept HK1.out).alloc _) ⟨w1.heap.size, 0, none⟩ 1 1 [.string (bs nw)] rfl rfl (cell_new w1 _ _) (fun x hx => by simp at hx; subst hx; rfl) hml hml2 (by exact hsz) ?_)
          intro v' w2 hown' hgrow _
          have HN : Hid (Kept w w2 ∧ OwnS w.heap.size w2 v' (ws ++ emit (curOf s.data.toList (f : Int) s.size))) := by
            refine ⟨Below.grown ((H.out.kp.trans HK1.out).alloc _) hgrow (by exact hsz) (fun j hj => (H.out.own.lt j hj).1), ?_⟩
            rw [HWE.out]
            unfold OwnS
            rw [strs_app, List.length_append]
            exact hown'
          have HL := hid' (show (ws ++ emit (curOf s.data.toList (f : Int) s.size)).length ≤ s.size + 1 by rw [HWE.out, List.length_append]; have := H.out.len; simp; omega)
          clear hown' hgrow hsz hml hml2
          go_wp2_with fail
          go_roundw
          case rel => exact ⟨s.size + 1, -1, _, by omega, .inl rfl, rfl, by go_num, HN.out.1, HN.out.2, by rw [cur_neg, H.out.eq, hsd, hsd2, show wd ([] : List UInt8) [] = [] from rfl, List.append_nil]; rfl, HL.out⟩
          case measure => show s.size + 1 - ((s.size : Int) + 1).toNat < s.size + 1 - (s.size : Int).toNat; omega
    · have hle' : ¬ (k : Int) ≤ (s.size : Int) := by omega
      have hf1 : fr = -1 := by
        rcases hfr with h | ⟨f, _, _, h⟩
        · exact h
        · omega
      have HE := hid' (show wordsL s.data.toList = ws by
        have := H.out.eq
        rw [hf1, cur_neg, List.drop_of_length_le (by rw [len_list]; omega)] at this
        rw [this]
        exact List.append_nil _)
      go_wp2_with fail
      go_ret
      exact ⟨H.out.kp, _, rfl, by rw [HE.out]; exact H.out.own⟩
end X
end Go.Proofs.YtbmmiepjkamaeaaDoor
