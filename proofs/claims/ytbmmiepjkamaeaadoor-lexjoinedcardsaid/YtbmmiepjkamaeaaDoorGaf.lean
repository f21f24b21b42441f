/- shuntref06.Texts, shuntref06.Same. awake of package shuntlaw06. shuntlaw06.LexCase. shuntlaw06.LexJoined. shuntlaw06.LexJoined: the walk. -/
import Derived.Test.YtbmmiepjkamaeaaDoorGae
import Derived.Lib.QuietBelow
namespace Go.Proofs.YtbmmiepjkamaeaaDoor
open Go.RowKit
namespace X
def RS (w : World) (v : Value) (ws : List (List UInt8)) : Prop :=
 ∃ ao c, v = .slice ao ws.length c ∧ (0 < ws.length → ∃ b off, ao = some ⟨b, off, none⟩ ∧ b < w.heap.size ∧ ∀ j, j < ws.length → w.cell? ⟨b, off + j, none⟩ = some (.string (bs (ws.getD j []))))
theorem RS.kept {w w' : World} {v : Value} {ws : List (List UInt8)} (h : RS w v ws) (k : Kept w w') : RS w' v ws := by
 obtain ⟨ao, c, rfl, h⟩ := h
 refine ⟨ao, c, rfl, fun h0 => ?_⟩
 obtain ⟨b, off, rfl, hb, hc⟩ := h h0
 exact ⟨b, off, rfl, Nat.lt_of_lt_of_le hb k.size, fun j hj => (Below.cell k (p := ⟨b, off + j, none⟩) hb).trans (hc j hj)⟩
theorem OwnS.rs {B : Nat} {w : World} {v : Value} {ws : List (List UInt8)} (h : OwnS B w v ws) : RS w v ws := by
 by_cases h0 : 0 < ws.length
 ·
  obtain ⟨g, cap, rfl, _, hg, _, hc, _⟩ := h.read h0
  exact ⟨_, _, rfl, fun _ => ⟨g, 0, rfl, hg, fun j hj => by rw [Nat.zero_add]; exact hc j hj⟩⟩
 ·
  obtain ⟨ao, cap, rfl⟩ := h.shape
  exact ⟨_, _, rfl, fun h => absurd h h0⟩
def RL (w : World) (v : Value) (told : List Ln) : Prop :=
 ∃ ao c, v = .slice ao told.length c ∧ (0 < told.length → ∃ b off, ao = some ⟨b, off, none⟩ ∧ b < w.heap.size ∧ ∀ j, j < told.length → w.cell? ⟨b, off + j * 2, none⟩ = some (.int .i64 ((told.getD j (0, [])).1 : Int)) ∧ ∃ u, w.cell? ⟨b, off + j * 2 + 1, none⟩ = some u ∧ RS w u (told.getD j (0, [])).2)
theorem RL.kept {w w' : World} {v : Value} {told : List Ln} (h : RL w v told) (k : Kept w w') : RL w' v told := by
 obtain ⟨ao, c, rfl, h⟩ := h
 refine ⟨ao, c, rfl, fun h0 => ?_⟩
 obtain ⟨b, off, rfl, hb, hc⟩ := h h0
 refine ⟨b, off, rfl, Nat.lt_of_lt_of_le hb k.size, fun j hj => ?_⟩
 obtain ⟨h1, u, h2, h3⟩ := hc j hj
 exact ⟨(Below.cell k (p := ⟨b, off + j * 2, none⟩) hb).trans h1, u, (Below.cell k (p := ⟨b, off + j * 2 + 1, none⟩) hb).trans h2, h3.kept k⟩
theorem OwnL.rl {B : Nat} {w : World} {v : Value} {told : List Ln} {vs : List Value} (h : OwnL B w v told vs) : RL w v told := by
 obtain ⟨ao, cap, rfl⟩ := h.shape
 refine ⟨_, _, rfl, fun h0 => ?_⟩
 obtain ⟨g, cap', hv, _, hlt⟩ := h.row.form h0
 simp only [Value.slice.injEq] at hv
 obtain ⟨rfl, _, rfl⟩ := hv
 refine ⟨g, 0, rfl, hlt, fun j hj => ?_⟩
 have hc := lnc_at told vs j h.len hj
 rw [Nat.zero_add]
 exact ⟨owns_cell h.row hc.1, _, owns_cell h.row hc.2, (h.own j hj).rs⟩
theorem eq_of_getD {α : Type} {a b : List α} (d : α) (hl : a.length = b.length) (h : ∀ j, j < a.length → a.getD j d = b.getD j d) : a = b := by
 apply List.ext_getElem hl
 intro i h1 h2
 have := h i h1
 rwa [List.getD_eq_getElem?_getD, List.getD_eq_getElem?_getD, List.getElem?_eq_getElem h1, List.getElem?_eq_getElem h2] at this
set_option maxRecDepth 100000 in
set_option maxHeartbeats 4000000 in
theorem texts_any (u1 u2 : Value) (a b : List (List UInt8)) (w : World) (h1 : RS w u1 a) (h2 : RS w u2 b) (hl : a.length ≤ 1000000) :
  Calls Tryd.prog 12 #[u1, u2] w fun e w' => Kept w w' ∧ e = .returned (.bool (decide (a = b))) := by
 obtain ⟨ao, c, rfl, h1⟩ := h1
 obtain ⟨ao', c', rfl, h2⟩ := h2
 obtain ⟨n, hn⟩ : ∃ n, n = a.length := ⟨_, rfl⟩
 rw [← hn] at h1 hl ⊢
 by_cases hne : n = b.length
 ·
  rw [← hne] at h2 ⊢
  have HN := hid' (And.intro hn hne)
  have H1 := hid' h1
  have H2 := hid' h2
  clear hn hne h1 h2
  go_enter Tryd.func12, Tryd.ntmps12
  go_wp2_with fail
  go_loopw [5] (fun vi wr => ∃ k : Nat, k ≤ n ∧ vi = .int .i64 (k : Int) ∧ Hid (Kept w wr ∧ ∀ j, j < k → a.getD j [] = b.getD j [])) (fun vi _ => n - (intOf vi).toNat)
  case atStart => exact ⟨0, Nat.zero_le _, rfl, Kept.refl _, fun j hj => absurd hj (Nat.not_lt_zero _)⟩
  case round =>
   obtain ⟨k, hk, rfl, H⟩ := hrel
   by_cases hlt : k < n
   ·
    have hi : (k : Int) < (n : Int) := by omega
    have hn0 : 0 < n := by omega
    obtain ⟨b1, o1, rfl, hb1, hc1⟩ := H1.out hn0
    obtain ⟨b2, o2, rfl, hb2, hc2⟩ := H2.out hn0
    have q1 := (Below.cell H.out.1 (p := ⟨b1, o1 + k, none⟩) hb1).trans (hc1 k hlt)
    have q2 := (Below.cell H.out.1 (p := ⟨b2, o2 + k, none⟩) hb2).trans (hc2 k hlt)
    obtain ⟨x, hx⟩ : ∃ x, x = a.getD k [] := ⟨_, rfl⟩
    obtain ⟨y, hy⟩ : ∃ y, y = b.getD k [] := ⟨_, rfl⟩
    rw [← hx] at q1
    rw [← hy] at q2
    have HX := hid' (And.intro hx hy)
    have e1 : (bs x).toList = x := by rw [ByteArray.toList_eq, bs_list]
    have e2 : (bs y).toList = y := by rw [ByteArray.toList_eq, bs_list]
    clear hx hy hb1 hb2 hc1 hc2
    generalize bs x = t1 at q1 e1
    generalize bs y = t2 at q2 e2
    by_cases hxy : x = y
    ·
     subst hxy
     have hq : t1.toList = t2.toList := by rw [e1, e2]
     have hq' : (t1.toList == t2.toList) = true := by rw [hq]; simp
     clear e1 e2 hq
     go_wp2_with fail
     go_quiet (fail)
     go_wp2_with fail
     go_roundw
     case rel =>
      refine ⟨k + 1, by omega, by go_num, H.out.1.drewN _, fun j hj => ?_⟩
      by_cases e : j = k
      ·
       subst e; rw [← HX.out.1, ← HX.out.2]
      ·
       exact H.out.2 j (by omega)
     case measure => show n - ((k : Int) + 1).toNat < n - (k : Int).toNat; omega
    ·
     have hq : ¬ t1.toList = t2.toList := by rw [e1, e2]; exact hxy
     have hq' : (t1.toList == t2.toList) = false := by simpa using hq
     have HD := hid' (show decide (a = b) = false from decide_eq_false (fun e => hxy (by rw [HX.out.1, HX.out.2, e])))
     clear e1 e2 hq hxy
     go_wp2_with fail
     go_quiet (fail)
     go_wp2_with fail
     go_ret
     exact ⟨H.out.1.drewN _, by rw [HD.out]; rfl⟩
   ·
    have hi : ¬ (k : Int) < (n : Int) := by omega
    have HD := hid' (show decide (a = b) = true from decide_eq_true (eq_of_getD [] (by rw [← HN.out.1, ← HN.out.2]) (fun j hj => H.out.2 j (by rw [← HN.out.1] at hj; omega))))
    go_wp2_with fail
    go_ret
    exact ⟨H.out.1, by rw [HD.out]; rfl⟩
 ·
  have hz : ¬ (n : Int) = (b.length : Int) := by omega
  have hz' : ((n : Int) == (b.length : Int)) = false := by simpa using hz
  have HD := hid' (show decide (a = b) = false from decide_eq_false (fun e => hne (by rw [hn, e])))
  clear hn h1 h2
  generalize b.length = m at *
  go_enter Tryd.func12, Tryd.ntmps12
  go_wp2_with fail
  go_ret
  exact ⟨Kept.refl _, by rw [HD.out]; rfl⟩
open Go.Sort (grow) in
set_option maxRecDepth 100000 in
set_option maxHeartbeats 8000000 in
theorem same_any (u1 u2 : Value) (a b : List Ln) (w : World) (h1 : RL w u1 a) (h2 : RL w u2 b) (hl : a.length ≤ 1000000) (hw : ∀ x ∈ a, x.2.length ≤ 1000000) :
  Calls Tryd.prog 11 #[u1, u2] w fun e w' => Kept w w' ∧ e = .returned (.bool (decide (a = b))) := by
 obtain ⟨ao, c, rfl, h1⟩ := h1
 obtain ⟨ao', c', rfl, h2⟩ := h2
 obtain ⟨n, hn⟩ : ∃ n, n = a.length := ⟨_, rfl⟩
 rw [← hn] at h1 hl ⊢
 by_cases hne : n = b.length
 ·
  rw [← hne] at h2 ⊢
  have HN := hid' (And.intro hn hne)
  have H1 := hid' h1
  have H2 := hid' h2
  clear hn hne h1 h2
  go_enter Tryd.func11, Tryd.ntmps11
  go_wp2_with fail
  go_loopw [5] (fun vi wr => ∃ k : Nat, k ≤ n ∧ vi = .int .i64 (k : Int) ∧ Hid (Kept w wr ∧ ∀ j, j < k → a.getD j (0, []) = b.getD j (0, []))) (fun vi _ => n - (intOf vi).toNat)
  case atStart => exact ⟨0, Nat.zero_le _, rfl, Kept.refl _, fun j hj => absurd hj (Nat.not_lt_zero _)⟩
  case round =>
   obtain ⟨k, hk, rfl, H⟩ := hrel
   by_cases hlt : k < n
   ·
    have hi : (k : Int) < (n : Int) := by omega
    have hn0 : 0 < n := by omega
    obtain ⟨b1, o1, rfl, hb1, hc1⟩ := H1.out hn0
    obtain ⟨b2, o2, rfl, hb2, hc2⟩ := H2.out hn0
    obtain ⟨p1, v1, p1', R1⟩ := hc1 k hlt
    obtain ⟨p2, v2, p2', R2⟩ := hc2 k hlt
    have hxw : (a.getD k (0, [])).2.length ≤ 1000000 := by
     have hka : k < a.length := by rw [← HN.out.1]; exact hlt
     rw [List.getD_eq_getElem?_getD, List.getElem?_eq_getElem hka]
     exact hw _ (List.getElem_mem hka)
    obtain ⟨x, hx⟩ : ∃ x, x = a.getD k (0, []) := ⟨_, rfl⟩
    obtain ⟨y, hy⟩ : ∃ y, y = b.getD k (0, []) := ⟨_, rfl⟩
    rw [← hx] at p1 R1 hxw
    rw [← hy] at p2 R2
    obtain ⟨xa, xw⟩ := x
    obtain ⟨ya, yw⟩ := y
    have HX := hid' (And.intro hx hy)
    simp only at p1 p2 R1 R2 hxw
    go_upto_region 6 with fail
    have KR : ∀ d os, Kept w (grow (redrawn wr d) os) := fun d os => H.out.1.trans (below_regrown wr d os)
    have r1 : ∀ d os, (grow (redrawn wr d) os).cell? ⟨b1, o1 + k * 2, none⟩ = some (.int .i64 (xa : Int)) := fun d os => (Below.cell (KR d os) (p := ⟨b1, o1 + k * 2, none⟩) hb1).trans p1
    have r2 : ∀ d os, (grow (redrawn wr d) os).cell? ⟨b1, o1 + k * 2 + 1, none⟩ = some v1 := fun d os => (Below.cell (KR d os) (p := ⟨b1, o1 + k * 2 + 1, none⟩) hb1).trans p1'
    have r3 : ∀ d os, (grow (redrawn wr d) os).cell? ⟨b2, o2 + k * 2, none⟩ = some (.int .i64 (ya : Int)) := fun d os => (Below.cell (KR d os) (p := ⟨b2, o2 + k * 2, none⟩) hb2).trans p2
    have r4 : ∀ d os, (grow (redrawn wr d) os).cell? ⟨b2, o2 + k * 2 + 1, none⟩ = some v2 := fun d os => (Below.cell (KR d os) (p := ⟨b2, o2 + k * 2 + 1, none⟩) hb2).trans p2'
    have cS : ∀ d os, Calls Tryd.prog 12 #[v1, v2] (grow (redrawn wr d) os) fun e w'' => e = .returned (.bool (decide (xw = yw))) ∧ ∃ p : Regrown, w'' = grow (redrawn wr p.d) p.os := fun d os =>
     Calls.regrown_of ((texts_any v1 v2 xw yw _ (R1.kept (KR d os)) (R2.kept (KR d os)) hxw).mono fun e w' h => ⟨h.2, h.1⟩)
    obtain ⟨ao3, c3, rfl, _⟩ := R1
    obtain ⟨ao4, c4, rfl, _⟩ := R2
    have HKR := hid' KR
    clear KR p1 p1' p2 p2' hc1 hc2 hb1 hb2 hx hy
    obtain ⟨bt, hbt⟩ : ∃ bt, bt = decide (xw = yw) := ⟨_, rfl⟩
    rw [← hbt] at cS
    have HBT := hid' hbt
    clear hbt
    by_cases hxy : (xa : Int) = (ya : Int)
    ·
     have hxy' : ((xa : Int) == (ya : Int)) = true := by simpa using hxy
     cases bt
     ·
      refine wp_region_quiet_below (by kernel_rfl) (by kernel_rfl) ?_
      repeat (quiet_step (exact cS _ _))
      refine wpQuiet_nil ?_
      intro _ hw'
      obtain ⟨⟨dq, osq⟩, hw''⟩ := hw'
      subst hw''
      go_wp2_with fail
      go_ret
      refine ⟨HKR.out dq osq, ?_⟩
      rw [show decide (a = b) = false from decide_eq_false (fun e => by
       have h1 := HX.out.1
       rw [e, ← HX.out.2] at h1
       cases h1
       exact absurd HBT.out (by simp))]
      rfl
     ·
      refine wp_region_quiet_below (by kernel_rfl) (by kernel_rfl) ?_
      repeat (quiet_step (exact cS _ _))
      refine wpQuiet_nil ?_
      intro _ hw'
      obtain ⟨⟨dq, osq⟩, hw''⟩ := hw'
      subst hw''
      go_wp2_with fail
      go_roundw
      case rel =>
       refine ⟨k + 1, by omega, by go_num, HKR.out dq osq, fun j hj => ?_⟩
       by_cases e : j = k
       ·
        subst e
        rw [← HX.out.1, ← HX.out.2]
        have h1 := HBT.out
        have h2 : xw = yw := by simpa using h1.symm
        have h3 : xa = ya := by omega
        rw [h2, h3]
       ·
        exact H.out.2 j (by omega)
      case measure => show n - ((k : Int) + 1).toNat < n - (k : Int).toNat; omega
    ·
     have hxy' : ((xa : Int) == (ya : Int)) = false := by simpa using hxy
     clear cS
     refine wp_region_quiet_below (by kernel_rfl) (by kernel_rfl) ?_
     repeat (quiet_step (fail))
     refine wpQuiet_nil ?_
     intro _ hw'
     obtain ⟨⟨dq, osq⟩, hw''⟩ := hw'
     subst hw''
     go_wp2_with fail
     go_ret
     refine ⟨HKR.out dq osq, ?_⟩
     rw [show decide (a = b) = false from decide_eq_false (fun e => by
      have h1 := HX.out.1
      rw [e, ← HX.out.2] at h1
      cases h1
      exact hxy rfl)]
     rfl
   ·
    have hi : ¬ (k : Int) < (n : Int) := by omega
    have HD := hid' (show decide (a = b) = true from decide_eq_true (eq_of_getD (0, []) (by rw [← HN.out.1, ← HN.out.2]) (fun j hj => H.out.2 j (by rw [← HN.out.1] at hj; omega))))
    go_wp2_with fail
    go_ret
    exact ⟨H.out.1, by rw [HD.out]; rfl⟩
 ·
  have hz : ¬ (n : Int) = (b.length : Int) := by omega
  have hz' : ((n : Int) == (b.length : Int)) = false := by simpa using hz
  have HD := hid' (show decide (a = b) = false from decide_eq_false (fun e => hne (by rw [hn, e])))
  clear hn h1 h2
  generalize b.length = m at *
  go_enter Tryd.func11, Tryd.ntmps11
  go_wp2_with fail
  go_ret
  exact ⟨Kept.refl _, by rw [HD.out]; rfl⟩
end X
end Go.Proofs.YtbmmiepjkamaeaaDoor

namespace Go.Proofs.YtbmmiepjkamaeaaDoor
open Go.RowKit
namespace X
def awk : List Ln := [(2, [[114, 49], [97], [98]]), (4, [[120]])]
theorem awk_lines : linesOf [42, 32, 116, 10, 82, 49, 32, 97, 10, 43, 32, 66, 59, 99, 10, 120] = (awk, 0, 0) := by decide +kernel
theorem al_new (W : World) (C : Array Value) (t : TypeId) (b j : Nat) (u : Value) (hb : b = W.heap.size) (hj : C[j]? = some u) : (W.alloc (.cells C t)).cell? ⟨b, j, none⟩ = some u := by
 subst hb
 exact (World.cell?_alloc_mark W C t (0, 0) j).trans hj
theorem al_old {W : World} {b j : Nat} {u : Value} (o : Obj) (h : W.cell? ⟨b, j, none⟩ = some u) : (W.alloc o).cell? ⟨b, j, none⟩ = some u :=
 (World.cell?_alloc_old W o ⟨b, j, none⟩ (Nat.ne_of_lt (World.block_lt_of_cell? _ _ h))).trans h
theorem awk_rl (w : World) : RL (((w.alloc (.cells #[.string ⟨#[114, 49]⟩, .string ⟨#[97]⟩, .string ⟨#[98]⟩] 9)).alloc (.cells #[.string ⟨#[120]⟩] 9)).alloc (.cells #[.int .i64 2, .slice (some ⟨w.heap.size, 0, none⟩) 3 3, .int .i64 4, .slice (some ⟨w.heap.size + 1, 0, none⟩) 1 1] 32)) (.slice (some ⟨w.heap.size + 1 + 1, 0, none⟩) 2 2) awk := by
 refine ⟨_, 2, rfl, fun _ => ⟨w.heap.size + 1 + 1, 0, rfl, by simp, fun j hj => ?_⟩⟩
 have hj : j < 2 := hj
 rcases (show j = 0 ∨ j = 1 by omega) with rfl | rfl
 ·
  refine ⟨al_new _ _ _ _ _ _ (by simp) rfl, .slice (some ⟨w.heap.size, 0, none⟩) 3 3, al_new _ _ _ _ _ _ (by simp) rfl, some ⟨w.heap.size, 0, none⟩, 3, rfl, fun _ => ⟨w.heap.size, 0, rfl, by simp; omega, fun i hi => ?_⟩⟩
  have hi : i < 3 := hi
  rcases (show i = 0 ∨ i = 1 ∨ i = 2 by omega) with rfl | rfl | rfl
  ·
   exact al_old _ (al_old _ (al_new _ _ _ _ _ _ rfl rfl))
  ·
   exact al_old _ (al_old _ (al_new _ _ _ _ _ _ rfl rfl))
  ·
   exact al_old _ (al_old _ (al_new _ _ _ _ _ _ rfl rfl))
 ·
  refine ⟨al_new _ _ _ _ _ _ (by simp) rfl, .slice (some ⟨w.heap.size + 1, 0, none⟩) 1 1, al_new _ _ _ _ _ _ (by simp) rfl, some ⟨w.heap.size + 1, 0, none⟩, 1, rfl, fun _ => ⟨w.heap.size + 1, 0, rfl, by simp, fun i hi => ?_⟩⟩
  have hi : i < 1 := hi
  obtain rfl : i = 0 := by omega
  exact al_old _ (al_new _ _ _ _ _ _ (by simp) rfl)
set_option maxRecDepth 100000 in
set_option maxHeartbeats 4000000 in
theorem awake_any (w : World) : Calls Tryd.prog 8 #[] w fun e w' => Kept w w' ∧ e = .returned (.bool true) := by
 have hL := lines_any ⟨#[42, 32, 116, 10, 82, 49, 32, 97, 10, 43, 32, 66, 59, 99, 10, 120]⟩ w (by decide)
 rw [show (⟨#[42, 32, 116, 10, 82, 49, 32, 97, 10, 43, 32, 66, 59, 99, 10, 120]⟩ : ByteArray).data.toList = [42, 32, 116, 10, 82, 49, 32, 97, 10, 43, 32, 66, 59, 99, 10, 120] from rfl, awk_lines] at hL
 go_enter Tryd.func8, Tryd.ntmps8
 go_wp2_with fail
 refine hL.mono ?_
 rintro e w1 ⟨hk, v, vs, rfl, own⟩
 have HK := hid' (And.intro hk own.rl)
 clear hk own hL
 go_wp2_with fail
 have hA := awk_rl w1
 have hK2 := ((((Kept.refl w1).alloc (.cells #[.string ⟨#[114, 49]⟩, .string ⟨#[97]⟩, .string ⟨#[98]⟩] 9)).alloc (.cells #[.string ⟨#[120]⟩] 9)).alloc (.cells #[.int .i64 2, .slice (some ⟨w1.heap.size, 0, none⟩) 3 3, .int .i64 4, .slice (some ⟨w1.heap.size + 1, 0, none⟩) 1 1] 32))
 refine (same_any _ _ awk awk _ (HK.out.2.kept hK2) hA (by decide) (by decide)).mono ?_
 rintro e w2 ⟨hk2, rfl⟩
 have HK2 := hid' ((HK.out.1.trans hK2).trans hk2)
 rw [decide_eq_true (rfl : awk = awk)]
 clear hA hK2 hk2
 go_wp2_with fail
 go_ret
 exact ⟨HK2.out, rfl⟩
end X
end Go.Proofs.YtbmmiepjkamaeaaDoor

namespace Go.Proofs.YtbmmiepjkamaeaaDoor
open Go.RowKit
namespace X
def mpTo (f : UInt8 → UInt8) (k : Nat) (l : List UInt8) : List UInt8 := (l.take k).map f ++ l.drop k
section
variable (f : UInt8 → UInt8)
end
theorem LnIs.rl {B : Nat} {w : World} {e : Ending} {r : List Ln × Nat × Nat} (h : LnIs B w e r) : ∃ v, e = .returned (.tuple #[v, .int .i64 (r.2.1 : Int), .int .i64 (r.2.2 : Int)]) ∧ RL w v r.1 := by
 obtain ⟨v, vs, he, own⟩ := h
 exact ⟨v, he, own.rl⟩
theorem lines_sizes (T : List UInt8) : (linesOf T).1.length ≤ 70000 ∧ (linesOf T).2.1 ≤ 70000 ∧ ∀ x ∈ (linesOf T).1, x.2.length ≤ 64 := by
 by_cases h : 65536 < T.length
 ·
  rw [lines_long h]; exact ⟨by decide, by decide, fun x hx => by simp at hx⟩
 ·
  have hc := cut10_len_le T
  refine ⟨?_, ?_, fun x hx => ((lines_ok T).1 x hx).2.1⟩
  ·
   rw [lines_go h]
   have key : ∀ (ls : List (List UInt8)) (told : List Ln) (n : Nat), (go told n ls).1.length ≤ told.length + ls.length := by
    intro ls
    induction ls with
    | nil => intro told n; exact Nat.le_refl _
    | cons l ls ih =>
     intro told n
     rw [go]
     rcases ht : tk told (n + 1) l with e | t
     ·
      simp
     ·
      have h1 := ih t (n + 1)
      have h2 := tk_len ht
      simp only [List.length_cons]
      omega
   have := key (cut10 T) [] 0
   simp at this
   omega
  ·
   rw [lines_go h]
   have := go_place (cut10 T) [] 0
   omega
end X
end Go.Proofs.YtbmmiepjkamaeaaDoor

namespace Go.Proofs.YtbmmiepjkamaeaaDoor
open Go.RowKit
namespace X
def AnyB (e : Ending) : Prop := ∃ b, e = .returned (.bool b)
theorem goes_any (s : ByteArray) (w : World) (hs : s.size ≤ 60000) : Calls Tryd.prog 13 #[.string s] w fun e w' => w' = w ∧ AnyB e := by
 go_enter Tryd.func13, Tryd.ntmps13
 go_wp2_with fail
 go_loopw [3] (fun vi wr => ∃ k : Nat, k ≤ s.size ∧ vi = .int .i64 (k : Int) ∧ wr = w) (fun vi _ => s.size - (intOf vi).toNat)
 case atStart => exact ⟨0, Nat.zero_le _, rfl, rfl⟩
 case round =>
  obtain ⟨k, hk, rfl, rfl⟩ := hrel
  by_cases hlt : k < s.size
  ·
   have hi : (k : Int) < (s.size : Int) := by omega
   by_cases h1 : (s[k].toNat : Int) = 43
   ·
    go_wp2_with fail
    go_ret
    exact ⟨rfl, _, rfl⟩
   ·
    have h1' : ((s[k].toNat : Int) == 43) = false := by simpa using h1
    go_wp2_with fail
    go_roundw
    case rel => exact ⟨k + 1, by omega, by go_num, trivial⟩
    case measure => show s.size - ((k : Int) + 1).toNat < s.size - (k : Int).toNat; omega
  ·
   have hi : ¬ (k : Int) < (s.size : Int) := by omega
   go_wp2_with fail
   go_ret
   exact ⟨rfl, _, rfl⟩
theorem lnc_set (told : List Ln) : ∀ (vs : List Value) (i z : Nat), vs.length = told.length → i < told.length → (lnc told vs).set (i * 2) (.int .i64 (z : Int)) = lnc (told.set i (z, (told.getD i (0, [])).2)) vs := by
 induction told with
 | nil => intro vs i z _ h; simp at h
 | cons x t ih =>
  intro vs i z h hi
  cases vs with
  | nil => simp at h
  | cons v vs =>
   cases i with
   | zero => rfl
   | succ i =>
    have := ih vs i z (by simpa using h) (by simpa using hi)
    rw [show (i + 1) * 2 = i * 2 + 1 + 1 by omega]
    simpa [lnc] using this
theorem OwnL.setAt {B : Nat} {w : World} {g n cap : Nat} {told : List Ln} {vs : List Value} (h : OwnL B w (.slice (some ⟨g, 0, none⟩) n cap) told vs) (hn : n = told.length) (i z : Nat) (hi : i < told.length) :
  OwnL B (w.setCell ⟨g, i * 2, none⟩ (.int .i64 (z : Int))) (.slice (some ⟨g, 0, none⟩) n cap) (told.set i (z, (told.getD i (0, [])).2)) vs := by
 have hrow := h.row
 rw [← hn] at hrow
 have hw : ∀ j, ((told.set i (z, (told.getD i (0, [])).2)).getD j (0, [])).2 = (told.getD j (0, [])).2 := by
  intro j
  rw [List.getD_eq_getElem?_getD, List.getD_eq_getElem?_getD, List.getElem?_set]
  split
  ·
   rename_i e
   subst e
   rw [List.getD_eq_getElem?_getD]
   try rw [if_pos hi]
   rfl
  ·
   rw [List.getD_eq_getElem?_getD]
 have hb : ∀ j b, j < told.length → (vs.getD j undef).ownBlock = some b → ¬ b = g := fun j b hj hb e => h.far j b hj hb (by rw [e]; rfl)
 refine ⟨by simpa using h.len, ?_, ?_, ?_, ?_, ?_⟩
 ·
  rw [List.length_set, ← hn, ← lnc_set told vs i z h.len hi]
  exact owns_set hrow _ _
 ·
  intro j hj
  rw [List.length_set] at hj
  rw [hw]
  exact owns_block (h.own j hj) (fun b hb' => Deep.blk_setCell_other _ _ _ _ (hb j b hj hb'))
 ·
  intro j hj
  rw [List.length_set] at hj
  rw [hw]
  exact h.ne j hj
 ·
  intro j b hj hb'
  rw [List.length_set] at hj
  exact h.far j b hj hb'
 ·
  intro j k b hj hk hjk hb'
  rw [List.length_set] at hj hk
  exact h.dis j k b hj hk hjk hb'
def shTo (n k : Nat) (l : List Ln) : List Ln := (l.take k).map (sh n) ++ l.drop k
theorem shTo_len (n k : Nat) (l : List Ln) : (shTo n k l).length = l.length := by unfold shTo; simp; omega
theorem shTo_zero (n : Nat) (l : List Ln) : shTo n 0 l = l := by simp [shTo]
theorem shTo_all (n : Nat) (l : List Ln) (k : Nat) (h : l.length ≤ k) : shTo n k l = l.map (sh n) := by simp [shTo, List.take_of_length_le h, List.drop_of_length_le h]
theorem shTo_at (n k : Nat) (l : List Ln) (h : k < l.length) : (shTo n k l).getD k (0, []) = l[k] := by
 unfold shTo
 rw [List.getD_eq_getElem?_getD, List.getElem?_append_right (by simp; omega)]
 simp [Nat.min_eq_left (Nat.le_of_lt h), h]
theorem shTo_succ (n k : Nat) (l : List Ln) (h : k < l.length) : shTo n (k + 1) l = (shTo n k l).set k (l[k].1 + n, l[k].2) := by
 unfold shTo
 rw [List.set_append_right _ _ (by simp; omega)]
 simp only [List.length_map, List.length_take, Nat.min_eq_left (Nat.le_of_lt h), Nat.sub_self]
 rw [List.take_succ_eq_append_getElem h, List.map_append, List.append_assoc]
 congr 1
 rw [List.drop_eq_getElem_cons h]
 rfl
theorem lnc_append (a b : List Ln) (va vb : List Value) (h : va.length = a.length) : lnc (a ++ b) (va ++ vb) = lnc a va ++ lnc b vb := by
 induction a generalizing va with
 | nil =>
  cases va with
  | nil => cases b <;> rfl
  | cons v va => simp at h
 | cons x a ih =>
  cases va with
  | nil => simp at h
  | cons v va => simp only [List.cons_append, lnc, ih va (by simpa using h)]
theorem rl_of_row {B : Nat} {w : World} {g n cap : Nat} {told : List Ln} {vs : List Value} (hl : vs.length = told.length) (hn : n = told.length) (h : w.ownsRow B 32 2 (.slice (some ⟨g, 0, none⟩) n cap) n (lnc told vs)) (hw : ∀ i, i < told.length → RS w (vs.getD i undef) (told.getD i (0, [])).2) : RL w (.slice (some ⟨g, 0, none⟩) n cap) told := by
 refine ⟨_, _, by rw [hn], fun h0 => ⟨g, 0, rfl, (h.lt g rfl).2, fun j hj => ?_⟩⟩
 have hc := lnc_at told vs j hl hj
 rw [Nat.zero_add]
 exact ⟨owns_cell h hc.1, _, owns_cell h hc.2, hw j hj⟩
theorem RS.blocks {w w' : World} {v : Value} {ws : List (List UInt8)} (h : RS w v ws) (hs : w.heap.size ≤ w'.heap.size) (k : ∀ b, v.ownBlock = some b → b < w.heap.size → w'.heap[b]? = w.heap[b]?) : RS w' v ws := by
 obtain ⟨ao, c, rfl, h⟩ := h
 refine ⟨ao, c, rfl, fun h0 => ?_⟩
 obtain ⟨b, off, rfl, hb, hc⟩ := h h0
 exact ⟨b, off, rfl, Nat.lt_of_lt_of_le hb hs, fun j hj => (World.cell?_of_block (a := ⟨b, off + j, none⟩) (k b rfl hb)).trans (hc j hj)⟩
theorem OwnL.news {B : Nat} {w : World} {ao : Option Addr} {n c : Nat} {told : List Ln} {vs : List Value} (h : OwnL B w (.slice ao n c) told vs) (hn : n = told.length) : 0 < n → ∃ ad : Addr, ao = some ad ∧ B ≤ ad.block ∧ ad.block < w.heap.size ∧ ∀ j u, (lnc told vs)[j]? = some u → w.cell? (ad.add j) = some u := by
 intro h0
 have hrow := h.row
 rw [← hn] at hrow
 obtain ⟨g, cap', hv, hB, hlt⟩ := hrow.form h0
 simp only [Value.slice.injEq] at hv
 obtain ⟨rfl, _, rfl⟩ := hv
 exact ⟨_, rfl, hB, hlt, fun j u hu => by rw [Addr.add_lit, Nat.zero_add]; exact owns_cell hrow hu⟩
theorem lnc_one {B : Nat} {w : World} {v : Value} {told : List Ln} {vs : List Value} (h : OwnL B w v told vs) : ∀ u ∈ lnc told vs, u.oneCell' = true := by
 intro u hu
 obtain ⟨i, hi⟩ := List.mem_iff_getElem?.1 hu
 have hl := (List.getElem?_eq_some_iff.1 hi).1
 rw [lnc_len told vs h.len] at hl
 have hc := lnc_at told vs (i / 2) h.len (by omega)
 rcases Nat.mod_two_eq_zero_or_one i with e | e
 ·
  rw [show i / 2 * 2 = i by omega, hi] at hc
  have := Option.some.inj hc.1
  subst this
  rfl
 ·
  rw [show i / 2 * 2 + 1 = i by omega, hi] at hc
  have := Option.some.inj hc.2
  subst this
  obtain ⟨ao, c, hs⟩ := (h.own (i / 2) (by omega)).shape
  rw [hs]
  rfl
end X
end Go.Proofs.YtbmmiepjkamaeaaDoor

namespace Go.Proofs.YtbmmiepjkamaeaaDoor
open Go.RowKit
namespace X
theorem addB (a : Addr) (n : Nat) : (a.add n).block = a.block := by unfold Addr.add; split <;> rfl
theorem cat_list (a b : ByteArray) : ((a ++ (⟨#[10]⟩ : ByteArray)) ++ b).data.toList = a.data.toList ++ 10 :: b.data.toList := by
 simp [ByteArray.data_append]
theorem cnt_at (s : ByteArray) (k : Nat) (h : k < s.size) : (s.data.toList.take (k + 1)).countP isN = (s.data.toList.take k).countP isN + if isN s[k] = true then 1 else 0 := by
 rw [take_at s k h, List.countP_append]
 simp [List.countP_cons]
def CutB (v : Value) (g : Nat) : Prop := ∃ bt, v = .bool bt ∧ (bt = false → g ≠ 61)
theorem lines_ats (T : List UInt8) : ∀ x ∈ (linesOf T).1, x.1 ≤ 70000 := by
 by_cases h : 65536 < T.length
 ·
  rw [lines_long h]; exact fun x hx => by simp at hx
 ·
  rw [lines_go h]
  have hc := cut10_len_le T
  have := (go_rise (cut10 T) [] 0 trivial (by simp)).2
  intro x hx
  have := this x hx
  omega
set_option maxRecDepth 100000 in
set_option maxHeartbeats 8000000 in
theorem lexJoined_any (a b : ByteArray) (w : World) (ha : a.size ≤ 140737488355328) (hb : b.size ≤ 140737488355328) : Calls Tryd.prog 7 #[.string a, .string b] w fun e w' => Kept w w' ∧ e = .returned (.bool true) := by
 go_enter Tryd.func7, Tryd.ntmps7
 go_wp2_with fail
 refine (awake_any _).mono ?_
 rintro e w1 ⟨hk1, rfl⟩
 have HK1 := hid' hk1
 clear hk1
 have o1 : IntKind.i64.wrap ((a.size : Int) + (b.size : Int)) = (a.size : Int) + (b.size : Int) := by rw [IntKind.wrap_i64]; omega
 by_cases hbig : 60000 < a.size + b.size
 ·
  have hbig' : (60000 : Int) < (a.size : Int) + (b.size : Int) := by omega
  go_wp2_with fail
  go_ret
  exact ⟨HK1.out, rfl⟩
 have hbig' : ¬ (60000 : Int) < (a.size : Int) + (b.size : Int) := by omega
 have c1 : ¬ 9223372036854775807 < a.size + (⟨#[10]⟩ : ByteArray).size := by rw [show (⟨#[10]⟩ : ByteArray).size = 1 from rfl]; omega
 have c2 : ¬ 9223372036854775807 < (a ++ (⟨#[10]⟩ : ByteArray)).size + b.size := by rw [ByteArray.size_append, show (⟨#[10]⟩ : ByteArray).size = 1 from rfl]; omega
 go_wp2_with fail
 go_loopw [5, 6] (fun vn vi wr => ∃ k n : Nat, k ≤ a.size ∧ n ≤ k + 1 ∧ vi = .int .i64 (k : Int) ∧ vn = .int .i64 (n : Int) ∧ Hid (n = (a.data.toList.take k).countP isN + 1) ∧ wr = w1) (fun _ vi _ => a.size - (intOf vi).toNat)
 case atStart => exact ⟨0, 1, Nat.zero_le _, by omega, rfl, rfl, hid' (by simp), rfl⟩
 case round =>
  obtain ⟨k, n, hk, hn, rfl, rfl, HN, rfl⟩ := hrel
  by_cases hlt : k < a.size
  ·
   have hi : (k : Int) < (a.size : Int) := by omega
   have hcn := cnt_at a k hlt
   by_cases h1 : (a[k].toNat : Int) = 10
   ·
    have HC := hid' (show n + 1 = (a.data.toList.take (k + 1)).countP isN + 1 by rw [hcn, if_pos (by unfold isN; exact decide_eq_true (by omega)), ← HN.out])
    clear hcn
    go_wp2_with fail
    go_roundw
    case rel => exact ⟨k + 1, n + 1, by omega, by omega, by go_num, by go_num, HC.out, trivial⟩
    case measure => show a.size - ((k : Int) + 1).toNat < a.size - (k : Int).toNat; omega
   ·
    have h1' : ((a[k].toNat : Int) == 10) = false := by simpa using h1
    have HC := hid' (show n = (a.data.toList.take (k + 1)).countP isN + 1 by rw [hcn, if_neg (by unfold isN; simp; omega), ← HN.out])
    clear hcn
    go_wp2_with fail
    go_roundw
    case rel => exact ⟨k + 1, n, by omega, by omega, by go_num, rfl, HC.out, trivial⟩
    case measure => show a.size - ((k : Int) + 1).toNat < a.size - (k : Int).toNat; omega
  ·
   have hi : ¬ (k : Int) < (a.size : Int) := by omega
   have HC := hid' (show (cut10 a.data.toList).length = n by
    have := HN.out
    rw [List.take_of_length_le (by rw [len_list]; omega)] at this
    rw [cut10_len, this])
   clear HN
   have hJ := lines_join (a := a.data.toList) (b := b.data.toList) (c := 10) (by decide) (by rw [len_list, len_list]; omega)
   rw [HC.out] at hJ
   have hla := lines_any ((a ++ (⟨#[10]⟩ : ByteArray)) ++ b) wr (by rw [ByteArray.size_append, ByteArray.size_append, show (⟨#[10]⟩ : ByteArray).size = 1 from rfl]; omega)
   rw [cat_list] at hla
   have hzr := lines_sizes (a.data.toList ++ 10 :: b.data.toList)
   have hzx := lines_sizes a.data.toList
   have hzy := lines_sizes b.data.toList
   have hlx := lines_any a
   have hly := lines_any b
   have hex := lines_err a.data.toList
   have hty := lines_ats b.data.toList
   generalize linesOf (a.data.toList ++ 10 :: b.data.toList) = R at hJ hla hzr
   generalize linesOf a.data.toList = X at hJ hlx hzx hex
   generalize linesOf b.data.toList = Y at hJ hly hzy hty
   have HJ := hid' hJ
   clear hJ
   go_wp2_with fail
   refine hla.mono ?_
   rintro e w2 ⟨hk2, v2, vs2, rfl, own2⟩
   have H2 := hid' (And.intro (HK1.out.trans hk2) own2.rl)
   clear hla hk2 own2
   go_wp2_with fail
   refine (hlx w2 (by omega)).mono ?_
   rintro e w3 ⟨hk3, v3, vs3, rfl, own3⟩
   have H3 := hid' (And.intro (H2.out.1.trans hk3) (And.intro (H2.out.2.kept hk3) (And.intro own3 H2.out.1.size)))
   clear hlx hk3 own3
   go_wp2_with fail
   refine (hly w3 (by omega)).mono ?_
   rintro e w4 ⟨hk4, v4, vs4, rfl, own4⟩
   have H4 := hid' (And.intro hk4 own4)
   obtain ⟨xa, xc, rfl⟩ := H3.out.2.2.1.shape
   obtain ⟨ya, yc, rfl⟩ := own4.shape
   obtain ⟨ra, rc, rfl, _⟩ := H3.out.2.1
   clear hly hk4 own4 H2
   by_cases hf : X.2.2 = 0
   ·
    have hf' : (X.2.2 : Int) = 0 := by omega
    have hJ2 := HJ.out.2 hf
    have HJ2 := hid' hJ2
    clear hJ2 HJ hex hf
    go_upto_region 16 with fail
    go_cut [82] (fun s82 wc => wc = w4 ∧ Hid (CutB s82 Y.2.2))
    case first =>
     by_cases g61 : (Y.2.2 : Int) = 61
     ·
      have g61' : ((Y.2.2 : Int) == 61) = true := by simpa using g61
      go_wp2_with fail
      go_meet
      case rel => exact ⟨rfl, true, rfl, fun h => by cases h⟩
     ·
      have g61' : ((Y.2.2 : Int) == 61) = false := by simpa using g61
      have HG := hid' (show Y.2.2 ≠ 61 by omega)
      by_cases hx0 : (0 : Int) < (X.1.length : Int)
      ·
       have hx0' : 0 < X.1.length := by omega
       by_cases g60 : (Y.2.2 : Int) = 60
       ·
        have g60' : ((Y.2.2 : Int) == 60) = true := by simpa using g60
        go_wp2_with fail
        go_meet
        case rel => exact ⟨rfl, _, rfl, fun _ => HG.out⟩
       ·
        have g60' : ((Y.2.2 : Int) == 60) = false := by simpa using g60
        go_wp2_with fail
        refine (goes_any b _ (by omega)).mono ?_
        rintro e w5 ⟨rfl, bt, rfl⟩
        go_wp2_with fail
        go_meet
        case rel => exact ⟨rfl, _, rfl, fun _ => HG.out⟩
      ·
       have hx0' : ¬ 0 < X.1.length := by omega
       have hx1 : decide (0 < X.1.length) = false := decide_eq_false hx0'
       have hx2 : decide ((0 : Int) < (X.1.length : Int)) = false := decide_eq_false hx0
       obtain ⟨xn, hxn⟩ : ∃ xn, xn = X.1.length := ⟨_, rfl⟩
       rw [← hxn] at hx0 hx0' hx1 hx2 ⊢
       go_wp2_with fail
       go_meet
       case rel => exact ⟨rfl, _, rfl, fun _ => HG.out⟩
    case rest =>
     obtain ⟨rfl, H82⟩ := hcut
     obtain ⟨bt, rfl, hbt⟩ := H82.out
     cases bt
     ·
      have hJ3 := HJ2.out (hbt rfl)
      clear hbt HJ2
      by_cases hg : Y.2.2 = 0
      ·
       rw [if_pos hg] at hJ3
       have hg' : (Y.2.2 : Int) = 0 := by omega
       have r1 : (R.2.2 : Int) = 0 := by rw [hJ3]; rfl
       have HR := hid' (show R.1 = X.1 ++ Y.1.map (sh n) by rw [hJ3])
       have r2 : R.1.length = X.1.length + Y.1.length := by rw [HR.out, List.length_append, List.length_map]
       clear hJ3 hg
       have hz3 := hzr.2.2
       have hz1 := hzx.1
       have hz2 := hzy.1
       obtain ⟨xn, hxn⟩ : ∃ xn, xn = X.1.length := ⟨_, rfl⟩
       obtain ⟨yn, hyn⟩ : ∃ yn, yn = Y.1.length := ⟨_, rfl⟩
       obtain ⟨rn, hrn⟩ : ∃ rn, rn = R.1.length := ⟨_, rfl⟩
       rw [← hxn] at r2 H3 hz1 ⊢
       rw [← hyn] at r2 H4 hz2 ⊢
       rw [← hrn] at r2 H3 ⊢
       have HN3 := hid' (And.intro hxn (And.intro hyn hrn))
       have r3 : IntKind.i64.wrap ((xn : Int) + (yn : Int)) = (xn : Int) + (yn : Int) := by rw [IntKind.wrap_i64]; omega
       have r4 : (rn : Int) = (xn : Int) + (yn : Int) := by omega
       have r5 : ((rn : Int) == (xn : Int) + (yn : Int)) = true := by simpa using r4
       clear hxn hyn hrn hzr hzx hzy
       go_wp2_with fail
       go_loopw [109] (fun vi wr => ∃ k : Nat, k ≤ yn ∧ vi = .int .i64 (k : Int) ∧ Hid (Kept w3 wr ∧ OwnL w3.heap.size wr (.slice ya yn yc) (shTo n k Y.1) vs4)) (fun vi _ => yn - (intOf vi).toNat)
       case atStart => exact ⟨0, Nat.zero_le _, rfl, H4.out.1, by rw [shTo_zero]; exact H4.out.2⟩
       case round =>
        obtain ⟨k2, hk2, rfl, H5⟩ := hrel
        by_cases hlt2 : k2 < yn
        ·
         have hi2 : (k2 : Int) < (yn : Int) := by omega
         have hky : k2 < Y.1.length := by rw [← HN3.out.2.1]; exact hlt2
         have hlen : yn = (shTo n k2 Y.1).length := by rw [shTo_len]; exact HN3.out.2.1
         obtain ⟨gy, rfl⟩ : ∃ g, ya = some ⟨g, 0, none⟩ := by
          obtain ⟨g, cap', hv, _⟩ := H5.out.2.row.form (by rw [← hlen]; omega)
          simp only [Value.slice.injEq] at hv
          exact ⟨g, hv.1⟩
         have hrow := H5.out.2.row
         rw [← hlen] at hrow
         have q0 := owns_cell hrow (lnc_at (shTo n k2 Y.1) vs4 k2 H5.out.2.len (by rw [← hlen]; exact hlt2)).1
         have q1 := owns_frozen hrow (k2 * 2)
         rw [shTo_at n k2 _ hky] at q0
         have hat := hty _ (List.getElem_mem hky)
         obtain ⟨ay, hay⟩ : ∃ ay, ay = Y.1[k2].1 := ⟨_, rfl⟩
         rw [← hay] at q0 hat
         have hbg : w3.heap.size ≤ gy := (hrow.lt gy rfl).1
         have hset := H5.out.2.setAt hlen k2 (ay + n) (by rw [← hlen]; exact hlt2)
         have hcast : ((ay + n : Nat) : Int) = (ay : Int) + (n : Int) := by omega
         rw [shTo_at n k2 _ hky, hay, ← shTo_succ n k2 Y.1 hky, ← hay, hcast] at hset
         have HS := hid' (And.intro (H5.out.1.setCell (p := ⟨gy, k2 * 2, none⟩) hbg (.int .i64 ((ay : Int) + (n : Int)))) hset)
         have o2 : IntKind.i64.wrap ((ay : Int) + (n : Int)) = (ay : Int) + (n : Int) := by rw [IntKind.wrap_i64]; omega
         clear hset hrow hay hlen hbg hky
         go_wp2_with fail
         go_roundw
         case rel => exact ⟨k2 + 1, by omega, by go_num, HS.out⟩
         case measure => show yn - ((k2 : Int) + 1).toNat < yn - (k2 : Int).toNat; omega
        ·
         have hi2 : ¬ (k2 : Int) < (yn : Int) := by omega
         have hoy := H5.out.2
         rw [shTo_all n _ k2 (by rw [← HN3.out.2.1]; omega)] at hoy
         have H6 := hid' (And.intro H5.out.1 hoy)
         clear hoy H5 H4 hlt2
         obtain ⟨i0, hi0, hz0, hz1', hz2'⟩ := info_parts info_line
         have hox := H3.out.2.2.1.kept H6.out.1
         have hlx : (lnc X.1 vs3).length = xn * 2 := by rw [lnc_len _ _ hox.len, ← HN3.out.1]
         have hly : (lnc (Y.1.map (sh n)) vs4).length = yn * 2 := by rw [lnc_len _ _ H6.out.2.len, List.length_map, ← HN3.out.2.1]
         have hnx := hox.news HN3.out.1
         have hny := H6.out.2.news (by rw [List.length_map]; exact HN3.out.2.1)
         have h1x := lnc_one hox
         have h1y := lnc_one H6.out.2
         have m1 : 0 + xn ≤ maxLen := by unfold maxLen; omega
         have m2 : xn + yn ≤ maxLen := by unfold maxLen; omega
         have HX := hid' (And.intro hox (And.intro hnx hny))
         clear hox hnx hny
         have hbase : wr.heap.size ≤ (wr.alloc (.cells #[] 32)).heap.size := by simp
         go_wp2_with (at_builtin; refine list_app rfl _ _ 23 rfl wr.heap.size 32 i0 (.agg #[.int .i64 0, .slice none 0 0]) 2 32 und_lines hi0 hz0 hz1' hz2' rfl (by decide) wr.heap.size 0 0 [] rfl (own_nil 32 2 wr wr.heap.size (Nat.le_refl _)) (Nat.le_refl _) xa xn xc (lnc X.1 vs3) rfl hlx (fun h0 => (HX.out.2.1 h0).imp fun ad h => ⟨h.1, fun j u hu => (Below.cell ((Kept.refl wr).alloc _) (p := ad.add j) (by rw [addB]; exact h.2.2.1)).trans (h.2.2.2 j u hu)⟩) h1x m1 (by omega) (by exact hbase) ?_)
         intro g6 cap6 W6 own6 hg6 hgg6
         have K6 : Kept wr W6 := kept_grown ((Kept.refl wr).alloc (.cells #[] 32)) hg6 (Nat.le_refl _)
         have hg6b : wr.heap.size ≤ g6 := (own6.lt g6 rfl).1
         have hc6 : xn ≤ cap6 := (row_of_owns own6).2.1
         have H7 := hid' (And.intro own6 K6)
         clear own6 hg6 hgg6 hbase K6
         go_wp2_with (at_builtin; refine list_app rfl _ _ 23 rfl wr.heap.size 32 i0 (.agg #[.int .i64 0, .slice none 0 0]) 2 32 und_lines hi0 hz0 hz1' hz2' rfl (by decide) g6 xn cap6 (lnc X.1 vs3) rfl H7.out.1 hc6 ya yn yc (lnc (Y.1.map (sh n)) vs4) rfl hly (fun h0 => (HX.out.2.2 h0).imp fun ad h => ⟨h.1, fun j u hu => (Below.cell H7.out.2 (p := ad.add j) (by rw [addB]; exact h.2.2.1)).trans (h.2.2.2 j u hu)⟩) h1y m2 (by omega) (by exact H7.out.2.size) ?_)
         intro g8 cap8 W8 own8 hg8 hgg8
         have K8 : Kept wr W8 := kept_grown H7.out.2 hg8 hg6b
         have hl8 : (vs3 ++ vs4).length = (X.1 ++ Y.1.map (sh n)).length := by rw [List.length_append, List.length_append, HX.out.1.len, H6.out.2.len]
         rw [← lnc_append _ _ _ _ HX.out.1.len] at own8
         have rl8 : RL W8 (.slice (some ⟨g8, 0, none⟩) (xn + yn) cap8) (X.1 ++ Y.1.map (sh n)) := by
          refine rl_of_row hl8 (by rw [List.length_append, List.length_map, ← HN3.out.1, ← HN3.out.2.1]) own8 (fun i hi => ?_)
          by_cases hix : i < X.1.length
          ·
           have e1 : (vs3 ++ vs4).getD i undef = vs3.getD i undef := by
            rw [List.getD_eq_getElem?_getD, List.getD_eq_getElem?_getD, List.getElem?_append_left (by rw [HX.out.1.len]; exact hix)]
           have e2 : (X.1 ++ Y.1.map (sh n)).getD i (0, []) = X.1.getD i (0, []) := by
            rw [List.getD_eq_getElem?_getD, List.getD_eq_getElem?_getD, List.getElem?_append_left hix]
           rw [e1, e2]
           exact ((HX.out.1.own i hix).rs).kept K8
          ·
           have e1 : (vs3 ++ vs4).getD i undef = vs4.getD (i - X.1.length) undef := by
            rw [List.getD_eq_getElem?_getD, List.getD_eq_getElem?_getD, List.getElem?_append_right (by rw [HX.out.1.len]; omega), HX.out.1.len]
           have e2 : (X.1 ++ Y.1.map (sh n)).getD i (0, []) = (Y.1.map (sh n)).getD (i - X.1.length) (0, []) := by
            rw [List.getD_eq_getElem?_getD, List.getD_eq_getElem?_getD, List.getElem?_append_right (by omega)]
           rw [e1, e2]
           exact ((H6.out.2.own (i - X.1.length) (by rw [List.length_append] at hi; omega)).rs).kept K8
         have H9 := hid' (And.intro (H3.out.1.trans (H6.out.1.trans K8)) (And.intro ((H3.out.2.1.kept H6.out.1).kept K8) rl8))
         clear own8 hg8 hgg8 K8 rl8 hl8
         go_wp2_with fail
         have hs := same_any (.slice ra rn rc) (.slice (some ⟨g8, 0, none⟩) (xn + yn) cap8) R.1 (X.1 ++ Y.1.map (sh n)) W8 H9.out.2.1 H9.out.2.2 (by rw [← HN3.out.2.2]; omega) (fun x hx => by have := hz3 x hx; omega)
         rw [decide_eq_true HR.out, r2] at hs
         refine hs.mono ?_
         rintro e w10 ⟨hk10, rfl⟩
         have H10 := hid' (H9.out.1.trans hk10)
         clear hs hk10
         go_wp2_with fail
         go_ret
         exact ⟨H10.out, rfl⟩
      ·
       rw [if_neg hg] at hJ3
       have hg' : ¬ (Y.2.2 : Int) = 0 := by omega
       have hg'' : ((Y.2.2 : Int) == 0) = false := by simpa using hg'
       have r1 : (R.2.2 : Int) = (Y.2.2 : Int) := by rw [hJ3]
       have r2 : (R.2.1 : Int) = (n : Int) + (Y.2.1 : Int) := by rw [hJ3]; simp; omega
       have r3 : IntKind.i64.wrap ((n : Int) + (Y.2.1 : Int)) = (n : Int) + (Y.2.1 : Int) := by rw [IntKind.wrap_i64]; omega
       clear hJ3 hg
       go_wp2_with fail
       go_ret
       exact ⟨H3.out.1.trans H4.out.1, rfl⟩
     ·
      clear hbt
      go_wp2_with fail
      go_ret
      exact ⟨H3.out.1.trans H4.out.1, rfl⟩
   ·
    have hf' : ¬ (X.2.2 : Int) = 0 := by omega
    have hf'' : ((X.2.2 : Int) == 0) = false := by simpa using hf'
    have hRX := HJ.out.1 hf
    rw [hRX] at *
    go_wp2_with fail
    go_ret
    exact ⟨H3.out.1.trans H4.out.1, rfl⟩
end X
end Go.Proofs.YtbmmiepjkamaeaaDoor
