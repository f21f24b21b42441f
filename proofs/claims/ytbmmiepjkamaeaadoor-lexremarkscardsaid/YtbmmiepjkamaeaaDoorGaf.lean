/- shuntref06.Texts, shuntref06.Same. awake of package shuntlaw06. shuntlaw06.LexCase. shuntlaw06.LexRemarks. -/
import Derived.Test.YtbmmiepjkamaeaaDoorGae
import Derived.Lib.QuietBelow
namespace Go.Proofs.YtbmmiepjkamaeaaDoor
open Go.RowKit
namespace X
def RS (w : World) (v : Value) (ws : List (List UInt8)) : Prop :=
 ∃ ao c, v = .slice ao ws.length c ∧ (0 < ws.length → ∃ b off, ao = some ⟨b, off, none⟩ ∧ b < w.heap.size ∧ ∀ j, j < ws.length → w.cell? ⟨b, off + j, none⟩ = some (.string (bs (ws.getD j []))))
theorem RS.kept {w w' : World} {v : Value} {ws : List (List UInt8)} (h : RS w v ws) (k : Kept w w') : RS w' v ws := by
 obtain ⟨ao, c, rfl, h⟩ := h
 refine ⟨ao, c, rfl, fun h0 => ?_⟩
 obtain ⟨b, off, rfl, hb, hc⟩ := h h0
 exact ⟨b, off, rfl, Nat.lt_of_lt_of_le hb k.size, fun j hj => (Below.cell k (p := ⟨b, off + j, none⟩) hb).trans (hc j hj)⟩
theorem OwnS.rs {B : Nat} {w : World} {v : Value} {ws : List (List UInt8)} (h : OwnS B w v ws) : RS w v ws := by
 by_cases h0 : 0 < ws.length
 ·
  obtain ⟨g, cap, rfl, _, hg, _, hc, _⟩ := h.read h0
  exact ⟨_, _, rfl, fun _ => ⟨g, 0, rfl, hg, fun j hj => by rw [Nat.zero_add]; exact hc j hj⟩⟩
 ·
  obtain ⟨ao, cap, rfl⟩ := h.shape
  exact ⟨_, _, rfl, fun h => absurd h h0⟩
def RL (w : World) (v : Value) (told : List Ln) : Prop :=
 ∃ ao c, v = .slice ao told.length c ∧ (0 < told.length → ∃ b off, ao = some ⟨b, off, none⟩ ∧ b < w.heap.size ∧ ∀ j, j < told.length → w.cell? ⟨b, off + j * 2, none⟩ = some (.int .i64 ((told.getD j (0, [])).1 : Int)) ∧ ∃ u, w.cell? ⟨b, off + j * 2 + 1, none⟩ = some u ∧ RS w u (told.getD j (0, [])).2)
theorem RL.kept {w w' : World} {v : Value} {told : List Ln} (h : RL w v told) (k : Kept w w') : RL w' v told := by
 obtain ⟨ao, c, rfl, h⟩ := h
 refine ⟨ao, c, rfl, fun h0 => ?_⟩
 obtain ⟨b, off, rfl, hb, hc⟩ := h h0
 refine ⟨b, off, rfl, Nat.lt_of_lt_of_le hb k.size, fun j hj => ?_⟩
 obtain ⟨h1, u, h2, h3⟩ := hc j hj
 exact ⟨(Below.cell k (p := ⟨b, off + j * 2, none⟩) hb).trans h1, u, (Below.cell k (p := ⟨b, off + j * 2 + 1, none⟩) hb).trans h2, h3.kept k⟩
theorem OwnL.rl {B : Nat} {w : World} {v : Value} {told : List Ln} {vs : List Value} (h : OwnL B w v told vs) : RL w v told := by
 obtain ⟨ao, cap, rfl⟩ := h.shape
 refine ⟨_, _, rfl, fun h0 => ?_⟩
 obtain ⟨g, cap', hv, _, hlt⟩ := h.row.form h0
 simp only [Value.slice.injEq] at hv
 obtain ⟨rfl, _, rfl⟩ := hv
 refine ⟨g, 0, rfl, hlt, fun j hj => ?_⟩
 have hc := lnc_at told vs j h.len hj
 rw [Nat.zero_add]
 exact ⟨owns_cell h.row hc.1, _, owns_cell h.row hc.2, (h.own j hj).rs⟩
theorem eq_of_getD {α : Type} {a b : List α} (d : α) (hl : a.length = b.length) (h : ∀ j, j < a.length → a.getD j d = b.getD j d) : a = b := by
 apply List.ext_getElem hl
 intro i h1 h2
 have := h i h1
 rwa [List.getD_eq_getElem?_getD, List.getD_eq_getElem?_getD, List.getElem?_eq_getElem h1, List.getElem?_eq_getElem h2] at this
set_option maxRecDepth 100000 in
set_option maxHeartbeats 4000000 in
theorem texts_any (u1 u2 : Value) (a b : List (List UInt8)) (w : World) (h1 : RS w u1 a) (h2 : RS w u2 b) (hl : a.length ≤ 1000000) :
  Calls Tryd.prog 12 #[u1, u2] w fun e w' => Kept w w' ∧ e = .returned (.bool (decide (a = b))) := by
 obtain ⟨ao, c, rfl, h1⟩ := h1
 obtain ⟨ao', c', rfl, h2⟩ := h2
 obtain ⟨n, hn⟩ : ∃ n, n = a.length := ⟨_, rfl⟩
 rw [← hn] at h1 hl ⊢
 by_cases hne : n = b.length
 ·
  rw [← hne] at h2 ⊢
  have HN := hid' (And.intro hn hne)
  have H1 := hid' h1
  have H2 := hid' h2
  clear hn hne h1 h2
  go_enter Tryd.func12, Tryd.ntmps12
  go_wp2_with fail
  go_loopw [5] (fun vi wr => ∃ k : Nat, k ≤ n ∧ vi = .int .i64 (k : Int) ∧ Hid (Kept w wr ∧ ∀ j, j < k → a.getD j [] = b.getD j [])) (fun vi _ => n - (intOf vi).toNat)
  case atStart => exact ⟨0, Nat.zero_le _, rfl, Kept.refl _, fun j hj => absurd hj (Nat.not_lt_zero _)⟩
  case round =>
   obtain ⟨k, hk, rfl, H⟩ := hrel
   by_cases hlt : k < n
   ·
    have hi : (k : Int) < (n : Int) := by omega
    have hn0 : 0 < n := by omega
    obtain ⟨b1, o1, rfl, hb1, hc1⟩ := H1.out hn0
    obtain ⟨b2, o2, rfl, hb2, hc2⟩ := H2.out hn0
    have q1 := (Below.cell H.out.1 (p := ⟨b1, o1 + k, none⟩) hb1).trans (hc1 k hlt)
    have q2 := (Below.cell H.out.1 (p := ⟨b2, o2 + k, none⟩) hb2).trans (hc2 k hlt)
    obtain ⟨x, hx⟩ : ∃ x, x = a.getD k [] := ⟨_, rfl⟩
    obtain ⟨y, hy⟩ : ∃ y, y = b.getD k [] := ⟨_, rfl⟩
    rw [← hx] at q1
    rw [← hy] at q2
    have HX := hid' (And.intro hx hy)
    have e1 : (bs x).toList = x := by rw [ByteArray.toList_eq, bs_list]
    have e2 : (bs y).toList = y := by rw [ByteArray.toList_eq, bs_list]
    clear hx hy hb1 hb2 hc1 hc2
    generalize bs x = t1 at q1 e1
    generalize bs y = t2 at q2 e2
    by_cases hxy : x = y
    ·
     subst hxy
     have hq : t1.toList = t2.toList := by rw [e1, e2]
     have hq' : (t1.toList == t2.toList) = true := by rw [hq]; simp
     clear e1 e2 hq
     go_wp2_with fail
     go_quiet (fail)
     go_wp2_with fail
     go_roundw
     case rel =>
      refine ⟨k + 1, by omega, by go_num, H.out.1.drewN _, fun j hj => ?_⟩
      by_cases e : j = k
      ·
       subst e; rw [← HX.out.1, ← HX.out.2]
      ·
       exact H.out.2 j (by omega)
     case measure => show n - ((k : Int) + 1).toNat < n - (k : Int).toNat; omega
    ·
     have hq : ¬ t1.toList = t2.toList := by rw [e1, e2]; exact hxy
     have hq' : (t1.toList == t2.toList) = false := by simpa using hq
     have HD := hid' (show decide (a = b) = false from decide_eq_false (fun e => hxy (by rw [HX.out.1, HX.out.2, e])))
     clear e1 e2 hq hxy
     go_wp2_with fail
     go_quiet (fail)
     go_wp2_with fail
     go_ret
     exact ⟨H.out.1.drewN _, by rw [HD.out]; rfl⟩
   ·
    have hi : ¬ (k : Int) < (n : Int) := by omega
    have HD := hid' (show decide (a = b) = true from decide_eq_true (eq_of_getD [] (by rw [← HN.out.1, ← HN.out.2]) (fun j hj => H.out.2 j (by rw [← HN.out.1] at hj; omega))))
    go_wp2_with fail
    go_ret
    exact ⟨H.out.1, by rw [HD.out]; rfl⟩
 ·
  have hz : ¬ (n : Int) = (b.length : Int) := by omega
  have hz' : ((n : Int) == (b.length : Int)) = false := by simpa using hz
  have HD := hid' (show decide (a = b) = false from decide_eq_false (fun e => hne (by rw [hn, e])))
  clear hn h1 h2
  generalize b.length = m at *
  go_enter Tryd.func12, Tryd.ntmps12
  go_wp2_with fail
  go_ret
  exact ⟨Kept.refl _, by rw [HD.out]; rfl⟩
open Go.Sort (grow) in
set_option maxRecDepth 100000 in
set_option maxHeartbeats 8000000 in
theorem same_any (u1 u2 : Value) (a b : List Ln) (w : World) (h1 : RL w u1 a) (h2 : RL w u2 b) (hl : a.length ≤ 1000000) (hw : ∀ x ∈ a, x.2.length ≤ 1000000) :
  Calls Tryd.prog 11 #[u1, u2] w fun e w' => Kept w w' ∧ e = .returned (.bool (decide (a = b))) := by
 obtain ⟨ao, c, rfl, h1⟩ := h1
 obtain ⟨ao', c', rfl, h2⟩ := h2
 obtain ⟨n, hn⟩ : ∃ n, n = a.length := ⟨_, rfl⟩
 rw [← hn] at h1 hl ⊢
 by_cases hne : n = b.length
 ·
  rw [← hne] at h2 ⊢
  have HN := hid' (And.intro hn hne)
  have H1 := hid' h1
  have H2 := hid' h2
  clear hn hne h1 h2
  go_enter Tryd.func11, Tryd.ntmps11
  go_wp2_with fail
  go_loopw [5] (fun vi wr => ∃ k : Nat, k ≤ n ∧ vi = .int .i64 (k : Int) ∧ Hid (Kept w wr ∧ ∀ j, j < k → a.getD j (0, []) = b.getD j (0, []))) (fun vi _ => n - (intOf vi).toNat)
  case atStart => exact ⟨0, Nat.zero_le _, rfl, Kept.refl _, fun j hj => absurd hj (Nat.not_lt_zero _)⟩
  case round =>
   obtain ⟨k, hk, rfl, H⟩ := hrel
   by_cases hlt : k < n
   ·
    have hi : (k : Int) < (n : Int) := by omega
    have hn0 : 0 < n := by omega
    obtain ⟨b1, o1, rfl, hb1, hc1⟩ := H1.out hn0
    obtain ⟨b2, o2, rfl, hb2, hc2⟩ := H2.out hn0
    obtain ⟨p1, v1, p1', R1⟩ := hc1 k hlt
    obtain ⟨p2, v2, p2', R2⟩ := hc2 k hlt
    have hxw : (a.getD k (0, [])).2.length ≤ 1000000 := by
     have hka : k < a.length := by rw [← HN.out.1]; exact hlt
     rw [List.getD_eq_getElem?_getD, List.getElem?_eq_getElem hka]
     exact hw _ (List.getElem_mem hka)
    obtain ⟨x, hx⟩ : ∃ x, x = a.getD k (0, []) := ⟨_, rfl⟩
    obtain ⟨y, hy⟩ : ∃ y, y = b.getD k (0, []) := ⟨_, rfl⟩
    rw [← hx] at p1 R1 hxw
    rw [← hy] at p2 R2
    obtain ⟨xa, xw⟩ := x
    obtain ⟨ya, yw⟩ := y
    have HX := hid' (And.intro hx hy)
    simp only at p1 p2 R1 R2 hxw
    go_upto_region 6 with fail
    have KR : ∀ d os, Kept w (grow (redrawn wr d) os) := fun d os => H.out.1.trans (below_regrown wr d os)
    have r1 : ∀ d os, (grow (redrawn wr d) os).cell? ⟨b1, o1 + k * 2, none⟩ = some (.int .i64 (xa : Int)) := fun d os => (Below.cell (KR d os) (p := ⟨b1, o1 + k * 2, none⟩) hb1).trans p1
    have r2 : ∀ d os, (grow (redrawn wr d) os).cell? ⟨b1, o1 + k * 2 + 1, none⟩ = some v1 := fun d os => (Below.cell (KR d os) (p := ⟨b1, o1 + k * 2 + 1, none⟩) hb1).trans p1'
    have r3 : ∀ d os, (grow (redrawn wr d) os).cell? ⟨b2, o2 + k * 2, none⟩ = some (.int .i64 (ya : Int)) := fun d os => (Below.cell (KR d os) (p := ⟨b2, o2 + k * 2, none⟩) hb2).trans p2
    have r4 : ∀ d os, (grow (redrawn wr d) os).cell? ⟨b2, o2 + k * 2 + 1, none⟩ = some v2 := fun d os => (Below.cell (KR d os) (p := ⟨b2, o2 + k * 2 + 1, none⟩) hb2).trans p2'
    have cS : ∀ d os, Calls Tryd.prog 12 #[v1, v2] (grow (redrawn wr d) os) fun e w'' => e = .returned (.bool (decide (xw = yw))) ∧ ∃ p : Regrown, w'' = grow (redrawn wr p.d) p.os := fun d os =>
     Calls.regrown_of ((texts_any v1 v2 xw yw _ (R1.kept (KR d os)) (R2.kept (KR d os)) hxw).mono fun e w' h => ⟨h.2, h.1⟩)
    obtain ⟨ao3, c3, rfl, _⟩ := R1
    obtain ⟨ao4, c4, rfl, _⟩ := R2
    have HKR := hid' KR
    clear KR p1 p1' p2 p2' hc1 hc2 hb1 hb2 hx hy
    obtain ⟨bt, hbt⟩ : ∃ bt, bt = decide (xw = yw) := ⟨_, rfl⟩
    rw [← hbt] at cS
    have HBT := hid' hbt
    clear hbt
    by_cases hxy : (xa : Int) = (ya : Int)
    ·
     have hxy' : ((xa : Int) == (ya : Int)) = true := by simpa using hxy
     cases bt
     ·
      refine wp_region_quiet_below (by kernel_rfl) (by kernel_rfl) ?_
      repeat (quiet_step (exact cS _ _))
      refine wpQuiet_nil ?_
      intro _ hw'
      obtain ⟨⟨dq, osq⟩, hw''⟩ := hw'
      subst hw''
      go_wp2_with fail
      go_ret
      refine ⟨HKR.out dq osq, ?_⟩
      rw [show decide (a = b) = false from decide_eq_false (fun e => by
       have h1 := HX.out.1
       rw [e, ← HX.out.2] at h1
       cases h1
       exact absurd HBT.out (by simp))]
      rfl
     ·
      refine wp_region_quiet_below (by kernel_rfl) (by kernel_rfl) ?_
      repeat (quiet_step (exact cS _ _))
      refine wpQuiet_nil ?_
      intro _ hw'
      obtain ⟨⟨dq, osq⟩, hw''⟩ := hw'
      subst hw''
      go_wp2_with fail
      go_roundw
      case rel =>
       refine ⟨k + 1, by omega, by go_num, HKR.out dq osq, fun j hj => ?_⟩
       by_cases e : j = k
       ·
        subst e
        rw [← HX.out.1, ← HX.out.2]
        have h1 := HBT.out
        have h2 : xw = yw := by simpa using h1.symm
        have h3 : xa = ya := by omega
        rw [h2, h3]
       ·
        exact H.out.2 j (by omega)
      case measure => show n - ((k : Int) + 1).toNat < n - (k : Int).toNat; omega
    ·
     have hxy' : ((xa : Int) == (ya : Int)) = false := by simpa using hxy
     clear cS
     refine wp_region_quiet_below (by kernel_rfl) (by kernel_rfl) ?_
     repeat (quiet_step (fail))
     refine wpQuiet_nil ?_
     intro _ hw'
     obtain ⟨⟨dq, osq⟩, hw''⟩ := hw'
     subst hw''
     go_wp2_with fail
     go_ret
     refine ⟨HKR.out dq osq, ?_⟩
     rw [show decide (a = b) = false from decide_eq_false (fun e => by
      have h1 := HX.out.1
      rw [e, ← HX.out.2] at h1
      cases h1
      exact hxy rfl)]
     rfl
   ·
    have hi : ¬ (k : Int) < (n : Int) := by omega
    have HD := hid' (show decide (a = b) = true from decide_eq_true (eq_of_getD (0, []) (by rw [← HN.out.1, ← HN.out.2]) (fun j hj => H.out.2 j (by rw [← HN.out.1] at hj; omega))))
    go_wp2_with fail
    go_ret
    exact ⟨H.out.1, by rw [HD.out]; rfl⟩
 ·
  have hz : ¬ (n : Int) = (b.length : Int) := by omega
  have hz' : ((n : Int) == (b.length : Int)) = false := by simpa using hz
  have HD := hid' (show decide (a = b) = false from decide_eq_false (fun e => hne (by rw [hn, e])))
  clear hn h1 h2
  generalize b.length = m at *
  go_enter Tryd.func11, Tryd.ntmps11
  go_wp2_with fail
  go_ret
  exact ⟨Kept.refl _, by rw [HD.out]; rfl⟩
end X
end Go.Proofs.YtbmmiepjkamaeaaDoor

namespace Go.Proofs.YtbmmiepjkamaeaaDoor
open Go.RowKit
namespace X
def awk : List Ln := [(2, [[114, 49], [97], [98]]), (4, [[120]])]
theorem awk_lines : linesOf [42, 32, 116, 10, 82, 49, 32, 97, 10, 43, 32, 66, 59, 99, 10, 120] = (awk, 0, 0) := by decide +kernel
theorem al_new (W : World) (C : Array Value) (t : TypeId) (b j : Nat) (u : Value) (hb : b = W.heap.size) (hj : C[j]? = some u) : (W.alloc (.cells C t)).cell? ⟨b, j, none⟩ = some u := by
 subst hb
 exact (World.cell?_alloc_mark W C t (0, 0) j).trans hj
theorem al_old {W : World} {b j : Nat} {u : Value} (o : Obj) (h : W.cell? ⟨b, j, none⟩ = some u) : (W.alloc o).cell? ⟨b, j, none⟩ = some u :=
 (World.cell?_alloc_old W o ⟨b, j, none⟩ (Nat.ne_of_lt (World.block_lt_of_cell? _ _ h))).trans h
theorem awk_rl (w : World) : RL (((w.alloc (.cells #[.string ⟨#[114, 49]⟩, .string ⟨#[97]⟩, .string ⟨#[98]⟩] 9)).alloc (.cells #[.string ⟨#[120]⟩] 9)).alloc (.cells #[.int .i64 2, .slice (some ⟨w.heap.size, 0, none⟩) 3 3, .int .i64 4, .slice (some ⟨w.heap.size + 1, 0, none⟩) 1 1] 32)) (.slice (some ⟨w.heap.size + 1 + 1, 0, none⟩) 2 2) awk := by
 refine ⟨_, 2, rfl, fun _ => ⟨w.heap.size + 1 + 1, 0, rfl, by simp, fun j hj => ?_⟩⟩
 have hj : j < 2 := hj
 rcases (show j = 0 ∨ j = 1 by omega) with rfl | rfl
 ·
  refine ⟨al_new _ _ _ _ _ _ (by simp) rfl, .slice (some ⟨w.heap.size, 0, none⟩) 3 3, al_new _ _ _ _ _ _ (by simp) rfl, some ⟨w.heap.size, 0, none⟩, 3, rfl, fun _ => ⟨w.heap.size, 0, rfl, by simp; omega, fun i hi => ?_⟩⟩
  have hi : i < 3 := hi
  rcases (show i = 0 ∨ i = 1 ∨ i = 2 by omega) with rfl | rfl | rfl
  ·
   exact al_old _ (al_old _ (al_new _ _ _ _ _ _ rfl rfl))
  ·
   exact al_old _ (al_old _ (al_new _ _ _ _ _ _ rfl rfl))
  ·
   exact al_old _ (al_old _ (al_new _ _ _ _ _ _ rfl rfl))
 ·
  refine ⟨al_new _ _ _ _ _ _ (by simp) rfl, .slice (some ⟨w.heap.size + 1, 0, none⟩) 1 1, al_new _ _ _ _ _ _ (by simp) rfl, some ⟨w.heap.size + 1, 0, none⟩, 1, rfl, fun _ => ⟨w.heap.size + 1, 0, rfl, by simp, fun i hi => ?_⟩⟩
  have hi : i < 1 := hi
  obtain rfl : i = 0 := by omega
  exact al_old _ (al_new _ _ _ _ _ _ (by simp) rfl)
set_option maxRecDepth 100000 in
set_option maxHeartbeats 4000000 in
theorem awake_any (w : World) : Calls Tryd.prog 8 #[] w fun e w' => Kept w w' ∧ e = .returned (.bool true) := by
 have hL := lines_any ⟨#[42, 32, 116, 10, 82, 49, 32, 97, 10, 43, 32, 66, 59, 99, 10, 120]⟩ w (by decide)
 rw [show (⟨#[42, 32, 116, 10, 82, 49, 32, 97, 10, 43, 32, 66, 59, 99, 10, 120]⟩ : ByteArray).data.toList = [42, 32, 116, 10, 82, 49, 32, 97, 10, 43, 32, 66, 59, 99, 10, 120] from rfl, awk_lines] at hL
 go_enter Tryd.func8, Tryd.ntmps8
 go_wp2_with fail
 refine hL.mono ?_
 rintro e w1 ⟨hk, v, vs, rfl, own⟩
 have HK := hid' (And.intro hk own.rl)
 clear hk own hL
 go_wp2_with fail
 have hA := awk_rl w1
 have hK2 := ((((Kept.refl w1).alloc (.cells #[.string ⟨#[114, 49]⟩, .string ⟨#[97]⟩, .string ⟨#[98]⟩] 9)).alloc (.cells #[.string ⟨#[120]⟩] 9)).alloc (.cells #[.int .i64 2, .slice (some ⟨w1.heap.size, 0, none⟩) 3 3, .int .i64 4, .slice (some ⟨w1.heap.size + 1, 0, none⟩) 1 1] 32))
 refine (same_any _ _ awk awk _ (HK.out.2.kept hK2) hA (by decide) (by decide)).mono ?_
 rintro e w2 ⟨hk2, rfl⟩
 have HK2 := hid' ((HK.out.1.trans hK2).trans hk2)
 rw [decide_eq_true (rfl : awk = awk)]
 clear hA hK2 hk2
 go_wp2_with fail
 go_ret
 exact ⟨HK2.out, rfl⟩
end X
end Go.Proofs.YtbmmiepjkamaeaaDoor

namespace Go.Proofs.YtbmmiepjkamaeaaDoor
open Go.RowKit
namespace X
def mpTo (f : UInt8 → UInt8) (k : Nat) (l : List UInt8) : List UInt8 := (l.take k).map f ++ l.drop k
section
variable (f : UInt8 → UInt8)
end
theorem LnIs.rl {B : Nat} {w : World} {e : Ending} {r : List Ln × Nat × Nat} (h : LnIs B w e r) : ∃ v, e = .returned (.tuple #[v, .int .i64 (r.2.1 : Int), .int .i64 (r.2.2 : Int)]) ∧ RL w v r.1 := by
 obtain ⟨v, vs, he, own⟩ := h
 exact ⟨v, he, own.rl⟩
theorem lines_sizes (T : List UInt8) : (linesOf T).1.length ≤ 70000 ∧ (linesOf T).2.1 ≤ 70000 ∧ ∀ x ∈ (linesOf T).1, x.2.length ≤ 64 := by
 by_cases h : 65536 < T.length
 ·
  rw [lines_long h]; exact ⟨by decide, by decide, fun x hx => by simp at hx⟩
 ·
  have hc := cut10_len_le T
  refine ⟨?_, ?_, fun x hx => ((lines_ok T).1 x hx).2.1⟩
  ·
   rw [lines_go h]
   have key : ∀ (ls : List (List UInt8)) (told : List Ln) (n : Nat), (go told n ls).1.length ≤ told.length + ls.length := by
    intro ls
    induction ls with
    | nil => intro told n; exact Nat.le_refl _
    | cons l ls ih =>
     intro told n
     rw [go]
     rcases ht : tk told (n + 1) l with e | t
     ·
      simp
     ·
      have h1 := ih t (n + 1)
      have h2 := tk_len ht
      simp only [List.length_cons]
      omega
   have := key (cut10 T) [] 0
   simp at this
   omega
  ·
   rw [lines_go h]
   have := go_place (cut10 T) [] 0
   omega
theorem lines_ats (T : List UInt8) : ∀ x ∈ (linesOf T).1, x.1 ≤ 70000 := by
 by_cases h : 65536 < T.length
 ·
  rw [lines_long h]; exact fun x hx => by simp at hx
 ·
  rw [lines_go h]
  have hc := cut10_len_le T
  have := (go_rise (cut10 T) [] 0 trivial (by simp)).2
  intro x hx
  have := this x hx
  omega
end X
end Go.Proofs.YtbmmiepjkamaeaaDoor

namespace Go.Proofs.YtbmmiepjkamaeaaDoor
open Go.RowKit
namespace X
theorem app_list (a b : ByteArray) : (a ++ b).data.toList = a.data.toList ++ b.data.toList := by simp [ByteArray.data_append]
theorem ext_one (s : ByteArray) (k : Nat) (h : k < s.size) : (s.extract k (k + 1)).data.toList = [s[k]] := by
 rw [ext_part, take_at s k h, List.drop_append_of_le_length (by rw [List.length_take, len_list]; omega), List.drop_eq_nil_of_le (by rw [List.length_take]; omega), List.nil_append]
theorem ext_one_size (s : ByteArray) (k : Nat) (h : k < s.size) : (s.extract k (k + 1)).size = 1 := by rw [← len_list, ext_one s k h]; rfl
theorem rmk_at (s : ByteArray) (k : Nat) (h : k < s.size) : (s.data.toList.take (k + 1)).flatMap rmk = (s.data.toList.take k).flatMap rmk ++ rmk s[k] := by
 rw [take_at s k h, List.flatMap_append]; simp
open Go.Sort (grow) in
set_option maxRecDepth 100000 in
set_option maxHeartbeats 8000000 in
theorem lexRemarks_any (s : ByteArray) (w : World) (hs : s.size ≤ 9223372036854775807) : Calls Tryd.prog 5 #[.string s] w fun e w' => Kept w w' ∧ e = .returned (.bool true) := by
 go_enter Tryd.func5, Tryd.ntmps5
 go_wp2_with fail
 refine (awake_any _).mono ?_
 rintro e w1 ⟨hk1, rfl⟩
 have HK1 := hid' hk1
 clear hk1
 by_cases hbig : 1500 < s.size
 ·
  have hbig' : (1500 : Int) < (s.size : Int) := by omega
  go_wp2_with fail
  go_ret
  exact ⟨HK1.out, rfl⟩
 have hbig' : ¬ (1500 : Int) < (s.size : Int) := by omega
 have hL := lines_any s
 have hzx := lines_sizes s.data.toList
 have hty := lines_ats s.data.toList
 have hJ := lines_rmks (T := s.data.toList) (by rw [len_list]; omega) (by have := rmks_len s.data.toList; rw [len_list] at this; omega)
 generalize linesOf s.data.toList = X at hL hzx hJ hty
 have HJ := hid' hJ
 clear hJ
 go_wp2_with fail
 refine (hL w1 hs).mono ?_
 rintro e w2 ⟨hk2, hl2⟩
 obtain ⟨v2, rfl, rl2⟩ := hl2.rl
 have H2 := hid' (And.intro (HK1.out.trans hk2) rl2)
 clear hl2 hk2 rl2 hL
 go_wp2_with fail
 go_loopw [6, 7] (fun vo vi wr => ∃ (k : Nat) (o : ByteArray), k ≤ s.size ∧ vo = .string o ∧ vi = .int .i64 (k : Int) ∧ o.size ≤ 9 + 29 * k ∧ Hid (o.data.toList = ttl ++ 10 :: 10 :: (s.data.toList.take k).flatMap rmk) ∧ wr = w2) (fun _ vi _ => s.size - (intOf vi).toNat)
 case atStart => exact ⟨0, _, Nat.zero_le _, rfl, rfl, by decide, hid' (by simp [ttl]), rfl⟩
 case round =>
  obtain ⟨k, o, hk, rfl, rfl, hos, HO, rfl⟩ := hrel
  by_cases hlt : k < s.size
  ·
   have hi : (k : Int) < (s.size : Int) := by omega
   have hrm := rmk_at s k hlt
   by_cases h1 : (s[k].toNat : Int) = 10
   ·
    have hlit : ∀ lit : ByteArray, lit.size = 29 → ¬ 9223372036854775807 < o.size + lit.size := fun lit h => by rw [h]; omega
    have hc := hlit ⟨#[32, 59, 32, 114, 101, 109, 97, 114, 107, 32, 42, 32, 43, 32, 97, 10, 32, 9, 10, 42, 32, 109, 111, 114, 101, 59, 32, 98, 10]⟩ (by decide)
    have HC := hid' (show (o ++ (⟨#[32, 59, 32, 114, 101, 109, 97, 114, 107, 32, 42, 32, 43, 32, 97, 10, 32, 9, 10, 42, 32, 109, 111, 114, 101, 59, 32, 98, 10]⟩ : ByteArray)).data.toList = ttl ++ 10 :: 10 :: (s.data.toList.take (k + 1)).flatMap rmk by
     rw [app_list, HO.out, hrm]
     have e : rmk s[k] = [32, 59, 32, 114, 101, 109, 97, 114, 107, 32, 42, 32, 43, 32, 97, 10, 32, 9, 10, 42, 32, 109, 111, 114, 101, 59, 32, 98, 10] := by
      unfold rmk
      rw [if_pos (by unfold isN; exact decide_eq_true (by omega))]; rfl
     rw [e]
     simp)
    have hsz : (o ++ (⟨#[32, 59, 32, 114, 101, 109, 97, 114, 107, 32, 42, 32, 43, 32, 97, 10, 32, 9, 10, 42, 32, 109, 111, 114, 101, 59, 32, 98, 10]⟩ : ByteArray)).size ≤ 9 + 29 * (k + 1) := by
     rw [ByteArray.size_append, show (⟨#[32, 59, 32, 114, 101, 109, 97, 114, 107, 32, 42, 32, 43, 32, 97, 10, 32, 9, 10, 42, 32, 109, 111, 114, 101, 59, 32, 98, 10]⟩ : ByteArray).size = 29 from rfl]; omega
    have HZ := hid' hsz
    clear hrm hlit hsz
    go_wp2_with fail
    go_roundw
    case rel => exact ⟨k + 1, _, by omega, rfl, by go_num, HZ.out, HC.out, trivial⟩
    case measure => show s.size - ((k : Int) + 1).toNat < s.size - (k : Int).toNat; omega
   ·
    have h1' : ((s[k].toNat : Int) == 10) = false := by simpa using h1
    have hx1 := ext_one_size s k hlt
    have hc : ¬ 9223372036854775807 < o.size + (s.extract k (k + 1)).size := by rw [hx1]; omega
    have HC := hid' (And.intro (show (o ++ s.extract k (k + 1)).size ≤ 9 + 29 * (k + 1) by rw [ByteArray.size_append, hx1]; omega) (show (o ++ s.extract k (k + 1)).data.toList = ttl ++ 10 :: 10 :: (s.data.toList.take (k + 1)).flatMap rmk by
     rw [app_list, HO.out, hrm, ext_one s k hlt]
     have e : rmk s[k] = [s[k]] := by
      unfold rmk
      rw [if_neg (by unfold isN; simp; omega)]
     rw [e]
     simp))
    have j1 : (k : Int) ≤ (k : Int) + 1 := by omega
    have j2 : (k : Int) + 1 ≤ (s.size : Int) := by omega
    have j3 : (0 : Int) ≤ (k : Int) := by omega
    have j4 : ((k : Int) + 1).toNat = k + 1 := by omega
    clear hrm hx1
    go_wp2_with fail
    go_roundw
    case rel => exact ⟨k + 1, _, by omega, rfl, by go_num, HC.out.1, HC.out.2, trivial⟩
    case measure => show s.size - ((k : Int) + 1).toNat < s.size - (k : Int).toNat; omega
  ·
   have hi : ¬ (k : Int) < (s.size : Int) := by omega
   have hL := lines_any o wr (by omega)
   have hol : o.data.toList = rmks s.data.toList := by
    rw [HO.out, List.take_of_length_le (by rw [len_list]; omega)]; rfl
   rw [hol] at hL
   have hzr := lines_sizes (rmks s.data.toList)
   generalize linesOf (rmks s.data.toList) = R at hL hzr HJ
   clear hol HO
   go_wp2_with fail
   refine hL.mono ?_
   rintro e w3 ⟨hk3, hl3⟩
   obtain ⟨v3, rfl, rl3⟩ := hl3.rl
   have H3 := hid' (And.intro (H2.out.1.trans hk3) (And.intro (H2.out.2.kept hk3) rl3))
   clear hl3 hk3 rl3 hL H2
   have hz1 := hzx.2.1
   obtain ⟨a2, c2, rfl, hx2⟩ := H3.out.2.1
   obtain ⟨a3, c3, rfl, hx3⟩ := H3.out.2.2
   by_cases hf : X.2.2 = 0
   ·
    have hJ := HJ.out
    rw [if_pos hf] at hJ
    have hf' : (X.2.2 : Int) = 0 := by omega
    have r1 : (R.2.2 : Int) = 0 := by rw [hJ]; rfl
    have r2 : R.1.length = X.1.length := by rw [hJ, List.length_map]
    have HT := hid' (show ∀ i, i < X.1.length → (R.1.getD i (0, [])).1 = 3 * (X.1.getD i (0, [])).1 ∧ (R.1.getD i (0, [])).2 = (X.1.getD i (0, [])).2 by
     intro i hi
     rw [hJ, List.getD_eq_getElem?_getD, List.getD_eq_getElem?_getD, List.getElem?_map, List.getElem?_eq_getElem hi]
     exact ⟨rfl, rfl⟩)
    have hzw := hzx.2.2
    have hzl := hzx.1
    obtain ⟨n, hn⟩ : ∃ n, n = X.1.length := ⟨_, rfl⟩
    rw [r2, ← hn] at hx3 ⊢
    rw [← hn] at HT hx2 hzl
    have HN := hid' hn
    have H2 := hid' hx2
    have H5 := hid' hx3
    have HK3 := hid' H3.out.1
    clear hJ hf r2 hx2 hx3 hn H3 hzx hzr HJ
    go_wp2_with fail
    go_loopw [70] (fun vi wq => ∃ k2 : Nat, k2 ≤ n ∧ vi = .int .i64 (k2 : Int) ∧ Hid (Kept w3 wq)) (fun vi _ => n - (intOf vi).toNat)
    case atStart => exact ⟨0, Nat.zero_le _, rfl, Kept.refl _⟩
    case round =>
     obtain ⟨k2, hk2, rfl, H⟩ := hrel
     by_cases hlt2 : k2 < n
     ·
      have hi2 : (k2 : Int) < (n : Int) := by omega
      have hn0 : 0 < n := by omega
      obtain ⟨b1, o1, rfl, hb1, hc1⟩ := H5.out hn0
      obtain ⟨b2, o2, rfl, hb2, hc2⟩ := H2.out hn0
      obtain ⟨p1, v1, p1', R1⟩ := hc1 k2 hlt2
      obtain ⟨p2, v2, p2', R2⟩ := hc2 k2 hlt2
      have hkx : k2 < X.1.length := by rw [← HN.out]; exact hlt2
      have ht := HT.out k2 hlt2
      rw [ht.1] at p1
      rw [ht.2] at R1
      have hmem : X.1.getD k2 (0, []) ∈ X.1 := by
       rw [List.getD_eq_getElem?_getD, List.getElem?_eq_getElem hkx]
       exact List.getElem_mem hkx
      have hxw := hzw _ hmem
      have hxa := hty _ hmem
      obtain ⟨x, hx⟩ : ∃ x, x = X.1.getD k2 (0, []) := ⟨_, rfl⟩
      rw [← hx] at p1 p2 R1 R2 hxw hxa
      obtain ⟨xa, xw⟩ := x
      simp only at p1 p2 R1 R2 hxw hxa
      clear hx ht hmem
      have q3 : IntKind.i64.wrap (3 * (xa : Int)) = 3 * (xa : Int) := by rw [IntKind.wrap_i64]; omega
      have e3 : ((3 * xa : Nat) : Int) = 3 * (xa : Int) := by omega
      rw [e3] at p1
      clear e3
      go_upto_region 21 with fail
      have KR : ∀ d os, Kept w3 (grow (redrawn wr d) os) := fun d os => H.out.trans (below_regrown wr d os)
      have r1 : ∀ d os, (grow (redrawn wr d) os).cell? ⟨b1, o1 + k2 * 2, none⟩ = some (.int .i64 (3 * (xa : Int))) := fun d os => (Below.cell (KR d os) (p := ⟨b1, o1 + k2 * 2, none⟩) hb1).trans p1
      have r2 : ∀ d os, (grow (redrawn wr d) os).cell? ⟨b1, o1 + k2 * 2 + 1, none⟩ = some v1 := fun d os => (Below.cell (KR d os) (p := ⟨b1, o1 + k2 * 2 + 1, none⟩) hb1).trans p1'
      have r3 : ∀ d os, (grow (redrawn wr d) os).cell? ⟨b2, o2 + k2 * 2, none⟩ = some (.int .i64 (xa : Int)) := fun d os => (Below.cell (KR d os) (p := ⟨b2, o2 + k2 * 2, none⟩) hb2).trans p2
      have r4 : ∀ d os, (grow (redrawn wr d) os).cell? ⟨b2, o2 + k2 * 2 + 1, none⟩ = some v2 := fun d os => (Below.cell (KR d os) (p := ⟨b2, o2 + k2 * 2 + 1, none⟩) hb2).trans p2'
      have cS : ∀ d os, Calls Tryd.prog 12 #[v1, v2] (grow (redrawn wr d) os) fun e w'' => e = .returned (.bool true) ∧ ∃ p : Regrown, w'' = grow (redrawn wr p.d) p.os := fun d os =>
       Calls.regrown_of ((texts_any v1 v2 xw xw _ (R1.kept (KR d os)) (R2.kept (KR d os)) (by omega)).mono fun e w' h => ⟨by rw [h.2, decide_eq_true rfl], h.1⟩)
      obtain ⟨ao3, c3', rfl, _⟩ := R1
      obtain ⟨ao4, c4', rfl, _⟩ := R2
      have HKR := hid' KR
      clear KR p1 p1' p2 p2' hc1 hc2 hb1 hb2
      refine wp_region_quiet_below (by kernel_rfl) (by kernel_rfl) ?_
      repeat (quiet_step (exact cS _ _))
      refine wpQuiet_nil ?_
      intro _ hw'
      obtain ⟨⟨dq, osq⟩, hw''⟩ := hw'
      subst hw''
      go_wp2_with fail
      go_roundw
      case rel => exact ⟨k2 + 1, by omega, by go_num, HKR.out dq osq⟩
      case measure => show n - ((k2 : Int) + 1).toNat < n - (k2 : Int).toNat; omega
     ·
      have hi2 : ¬ (k2 : Int) < (n : Int) := by omega
      go_wp2_with fail
      go_ret
      exact ⟨HK3.out.trans H.out, rfl⟩
   ·
    have hf' : ¬ (X.2.2 : Int) = 0 := by omega
    have hf'' : ((X.2.2 : Int) == 0) = false := by simpa using hf'
    have hJ := HJ.out
    rw [if_neg hf] at hJ
    have r1 : (R.2.2 : Int) = (X.2.2 : Int) := by rw [hJ]
    have r2 : (R.2.1 : Int) = 3 * (X.2.1 : Int) := by rw [hJ]; simp
    have r3 : IntKind.i64.wrap (3 * (X.2.1 : Int)) = 3 * (X.2.1 : Int) := by rw [IntKind.wrap_i64]; omega
    clear hJ hx2 hx3 hf
    go_wp2_with fail
    go_ret
    exact ⟨H3.out.1, rfl⟩
end X
end Go.Proofs.YtbmmiepjkamaeaaDoor
