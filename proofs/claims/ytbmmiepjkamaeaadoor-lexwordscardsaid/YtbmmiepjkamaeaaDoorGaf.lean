/- shuntref06.Texts, shuntref06.Same. awake of package shuntlaw06. shuntlaw06.LexCase. shuntlaw06.LexRemarks. shuntlaw06.LexWords: bytes; the word at hand. shuntlaw06.LexWords: the walk. -/
import Derived.Test.YtbmmiepjkamaeaaDoorGae
import Derived.Lib.QuietBelow
namespace Go.Proofs.YtbmmiepjkamaeaaDoor
open Go.RowKit
namespace X
def RS (w : World) (v : Value) (ws : List (List UInt8)) : Prop :=
 ∃ ao c, v = .slice ao ws.length c ∧ (0 < ws.length → ∃ b off, ao = some ⟨b, off, none⟩ ∧ b < w.heap.size ∧ ∀ j, j < ws.length → w.cell? ⟨b, off + j, none⟩ = some (.string (bs (ws.getD j []))))
theorem RS.kept {w w' : World} {v : Value} {ws : List (List UInt8)} (h : RS w v ws) (k : Kept w w') : RS w' v ws := by
 obtain ⟨ao, c, rfl, h⟩ := h
 refine ⟨ao, c, rfl, fun h0 => ?_⟩
 obtain ⟨b, off, rfl, hb, hc⟩ := h h0
 exact ⟨b, off, rfl, Nat.lt_of_lt_of_le hb k.size, fun j hj => (Below.cell k (p := ⟨b, off + j, none⟩) hb).trans (hc j hj)⟩
theorem OwnS.rs {B : Nat} {w : World} {v : Value} {ws : List (List UInt8)} (h : OwnS B w v ws) : RS w v ws := by
 by_cases h0 : 0 < ws.length
 ·
  obtain ⟨g, cap, rfl, _, hg, _, hc, _⟩ := h.read h0
  exact ⟨_, _, rfl, fun _ => ⟨g, 0, rfl, hg, fun j hj => by rw [Nat.zero_add]; exact hc j hj⟩⟩
 ·
  obtain ⟨ao, cap, rfl⟩ := h.shape
  exact ⟨_, _, rfl, fun h => absurd h h0⟩
def RL (w : World) (v : Value) (told : List Ln) : Prop :=
 ∃ ao c, v = .slice ao told.length c ∧ (0 < told.length → ∃ b off, ao = some ⟨b, off, none⟩ ∧ b < w.heap.size ∧ ∀ j, j < told.length → w.cell? ⟨b, off + j * 2, none⟩ = some (.int .i64 ((told.getD j (0, [])).1 : Int)) ∧ ∃ u, w.cell? ⟨b, off + j * 2 + 1, none⟩ = some u ∧ RS w u (told.getD j (0, [])).2)
theorem RL.kept {w w' : World} {v : Value} {told : List Ln} (h : RL w v told) (k : Kept w w') : RL w' v told := by
 obtain ⟨ao, c, rfl, h⟩ := h
 refine ⟨ao, c, rfl, fun h0 => ?_⟩
 obtain ⟨b, off, rfl, hb, hc⟩ := h h0
 refine ⟨b, off, rfl, Nat.lt_of_lt_of_le hb k.size, fun j hj => ?_⟩
 obtain ⟨h1, u, h2, h3⟩ := hc j hj
 exact ⟨(Below.cell k (p := ⟨b, off + j * 2, none⟩) hb).trans h1, u, (Below.cell k (p := ⟨b, off + j * 2 + 1, none⟩) hb).trans h2, h3.kept k⟩
theorem OwnL.rl {B : Nat} {w : World} {v : Value} {told : List Ln} {vs : List Value} (h : OwnL B w v told vs) : RL w v told := by
 obtain ⟨ao, cap, rfl⟩ := h.shape
 refine ⟨_, _, rfl, fun h0 => ?_⟩
 obtain ⟨g, cap', hv, _, hlt⟩ := h.row.form h0
 simp only [Value.slice.injEq] at hv
 obtain ⟨rfl, _, rfl⟩ := hv
 refine ⟨g, 0, rfl, hlt, fun j hj => ?_⟩
 have hc := lnc_at told vs j h.len hj
 rw [Nat.zero_add]
 exact ⟨owns_cell h.row hc.1, _, owns_cell h.row hc.2, (h.own j hj).rs⟩
theorem eq_of_getD {α : Type} {a b : List α} (d : α) (hl : a.length = b.length) (h : ∀ j, j < a.length → a.getD j d = b.getD j d) : a = b := by
 apply List.ext_getElem hl
 intro i h1 h2
 have := h i h1
 rwa [List.getD_eq_getElem?_getD, List.getD_eq_getElem?_getD, List.getElem?_eq_getElem h1, List.getElem?_eq_getElem h2] at this
set_option maxRecDepth 100000 in
set_option maxHeartbeats 4000000 in
theorem texts_any (u1 u2 : Value) (a b : List (List UInt8)) (w : World) (h1 : RS w u1 a) (h2 : RS w u2 b) (hl : a.length ≤ 1000000) :
  Calls Tryd.prog 12 #[u1, u2] w fun e w' => Kept w w' ∧ e = .returned (.bool (decide (a = b))) := by
 obtain ⟨ao, c, rfl, h1⟩ := h1
 obtain ⟨ao', c', rfl, h2⟩ := h2
 obtain ⟨n, hn⟩ : ∃ n, n = a.length := ⟨_, rfl⟩
 rw [← hn] at h1 hl ⊢
 by_cases hne : n = b.length
 ·
  rw [← hne] at h2 ⊢
  have HN := hid' (And.intro hn hne)
  have H1 := hid' h1
  have H2 := hid' h2
  clear hn hne h1 h2
  go_enter Tryd.func12, Tryd.ntmps12
  go_wp2_with fail
  go_loopw [5] (fun vi wr => ∃ k : Nat, k ≤ n ∧ vi = .int .i64 (k : Int) ∧ Hid (Kept w wr ∧ ∀ j, j < k → a.getD j [] = b.getD j [])) (fun vi _ => n - (intOf vi).toNat)
  case atStart => exact ⟨0, Nat.zero_le _, rfl, Kept.refl _, fun j hj => absurd hj (Nat.not_lt_zero _)⟩
  case round =>
   obtain ⟨k, hk, rfl, H⟩ := hrel
   by_cases hlt : k < n
   ·
    have hi : (k : Int) < (n : Int) := by omega
    have hn0 : 0 < n := by omega
    obtain ⟨b1, o1, rfl, hb1, hc1⟩ := H1.out hn0
    obtain ⟨b2, o2, rfl, hb2, hc2⟩ := H2.out hn0
    have q1 := (Below.cell H.out.1 (p := ⟨b1, o1 + k, none⟩) hb1).trans (hc1 k hlt)
    have q2 := (Below.cell H.out.1 (p := ⟨b2, o2 + k, none⟩) hb2).trans (hc2 k hlt)
    obtain ⟨x, hx⟩ : ∃ x, x = a.getD k [] := ⟨_, rfl⟩
    obtain ⟨y, hy⟩ : ∃ y, y = b.getD k [] := ⟨_, rfl⟩
    rw [← hx] at q1
    rw [← hy] at q2
    have HX := hid' (And.intro hx hy)
    have e1 : (bs x).toList = x := by rw [ByteArray.toList_eq, bs_list]
    have e2 : (bs y).toList = y := by rw [ByteArray.toList_eq, bs_list]
    clear hx hy hb1 hb2 hc1 hc2
    generalize bs x = t1 at q1 e1
    generalize bs y = t2 at q2 e2
    by_cases hxy : x = y
    ·
     subst hxy
     have hq : t1.toList = t2.toList := by rw [e1, e2]
     have hq' : (t1.toList == t2.toList) = true := by rw [hq]; simp
     clear e1 e2 hq
     go_wp2_with fail
     go_quiet (fail)
     go_wp2_with fail
     go_roundw
     case rel =>
      refine ⟨k + 1, by omega, by go_num, H.out.1.drewN _, fun j hj => ?_⟩
      by_cases e : j = k
      ·
       subst e; rw [← HX.out.1, ← HX.out.2]
      ·
       exact H.out.2 j (by omega)
     case measure => show n - ((k : Int) + 1).toNat < n - (k : Int).toNat; omega
    ·
     have hq : ¬ t1.toList = t2.toList := by rw [e1, e2]; exact hxy
     have hq' : (t1.toList == t2.toList) = false := by simpa using hq
     have HD := hid' (show decide (a = b) = false from decide_eq_false (fun e => hxy (by rw [HX.out.1, HX.out.2, e])))
     clear e1 e2 hq hxy
     go_wp2_with fail
     go_quiet (fail)
     go_wp2_with fail
     go_ret
     exact ⟨H.out.1.drewN _, by rw [HD.out]; rfl⟩
   ·
    have hi : ¬ (k : Int) < (n : Int) := by omega
    have HD := hid' (show decide (a = b) = true from decide_eq_true (eq_of_getD [] (by rw [← HN.out.1, ← HN.out.2]) (fun j hj => H.out.2 j (by rw [← HN.out.1] at hj; omega))))
    go_wp2_with fail
    go_ret
    exact ⟨H.out.1, by rw [HD.out]; rfl⟩
 ·
  have hz : ¬ (n : Int) = (b.length : Int) := by omega
  have hz' : ((n : Int) == (b.length : Int)) = false := by simpa using hz
  have HD := hid' (show decide (a = b) = false from decide_eq_false (fun e => hne (by rw [hn, e])))
  clear hn h1 h2
  generalize b.length = m at *
  go_enter Tryd.func12, Tryd.ntmps12
  go_wp2_with fail
  go_ret
  exact ⟨Kept.refl _, by rw [HD.out]; rfl⟩
open Go.Sort (grow) in
set_option maxRecDepth 100000 in
set_option maxHeartbeats 8000000 in
theorem same_any (u1 u2 : Value) (a b : List Ln) (w : World) (h1 : RL w u1 a) (h2 : RL w u2 b) (hl : a.length ≤ 1000000) (hw : ∀ x ∈ a, x.2.length ≤ 1000000) :
  Calls Tryd.prog 11 #[u1, u2] w fun e w' => Kept w w' ∧ e = .returned (.bool (decide (a = b))) := by
 obtain ⟨ao, c, rfl, h1⟩ := h1
 obtain ⟨ao', c', rfl, h2⟩ := h2
 obtain ⟨n, hn⟩ : ∃ n, n = a.length := ⟨_, rfl⟩
 rw [← hn] at h1 hl ⊢
 by_cases hne : n = b.length
 ·
  rw [← hne] at h2 ⊢
  have HN := hid' (And.intro hn hne)
  have H1 := hid' h1
  have H2 := hid' h2
  clear hn hne h1 h2
  go_enter Tryd.func11, Tryd.ntmps11
  go_wp2_with fail
  go_loopw [5] (fun vi wr => ∃ k : Nat, k ≤ n ∧ vi = .int .i64 (k : Int) ∧ Hid (Kept w wr ∧ ∀ j, j < k → a.getD j (0, []) = b.getD j (0, []))) (fun vi _ => n - (intOf vi).toNat)
  case atStart => exact ⟨0, Nat.zero_le _, rfl, Kept.refl _, fun j hj => absurd hj (Nat.not_lt_zero _)⟩
  case round =>
   obtain ⟨k, hk, rfl, H⟩ := hrel
   by_cases hlt : k < n
   ·
    have hi : (k : Int) < (n : Int) := by omega
    have hn0 : 0 < n := by omega
    obtain ⟨b1, o1, rfl, hb1, hc1⟩ := H1.out hn0
    obtain ⟨b2, o2, rfl, hb2, hc2⟩ := H2.out hn0
    obtain ⟨p1, v1, p1', R1⟩ := hc1 k hlt
    obtain ⟨p2, v2, p2', R2⟩ := hc2 k hlt
    have hxw : (a.getD k (0, [])).2.length ≤ 1000000 := by
     have hka : k < a.length := by rw [← HN.out.1]; exact hlt
     rw [List.getD_eq_getElem?_getD, List.getElem?_eq_getElem hka]
     exact hw _ (List.getElem_mem hka)
    obtain ⟨x, hx⟩ : ∃ x, x = a.getD k (0, []) := ⟨_, rfl⟩
    obtain ⟨y, hy⟩ : ∃ y, y = b.getD k (0, []) := ⟨_, rfl⟩
    rw [← hx] at p1 R1 hxw
    rw [← hy] at p2 R2
    obtain ⟨xa, xw⟩ := x
    obtain ⟨ya, yw⟩ := y
    have HX := hid' (And.intro hx hy)
    simp only at p1 p2 R1 R2 hxw
    go_upto_region 6 with fail
    have KR : ∀ d os, Kept w (grow (redrawn wr d) os) := fun d os => H.out.1.trans (below_regrown wr d os)
    have r1 : ∀ d os, (grow (redrawn wr d) os).cell? ⟨b1, o1 + k * 2, none⟩ = some (.int .i64 (xa : Int)) := fun d os => (Below.cell (KR d os) (p := ⟨b1, o1 + k * 2, none⟩) hb1).trans p1
    have r2 : ∀ d os, (grow (redrawn wr d) os).cell? ⟨b1, o1 + k * 2 + 1, none⟩ = some v1 := fun d os => (Below.cell (KR d os) (p := ⟨b1, o1 + k * 2 + 1, none⟩) hb1).trans p1'
    have r3 : ∀ d os, (grow (redrawn wr d) os).cell? ⟨b2, o2 + k * 2, none⟩ = some (.int .i64 (ya : Int)) := fun d os => (Below.cell (KR d os) (p := ⟨b2, o2 + k * 2, none⟩) hb2).trans p2
    have r4 : ∀ d os, (grow (redrawn wr d) os).cell? ⟨b2, o2 + k * 2 + 1, none⟩ = some v2 := fun d os => (Below.cell (KR d os) (p := ⟨b2, o2 + k * 2 + 1, none⟩) hb2).trans p2'
    have cS : ∀ d os, Calls Tryd.prog 12 #[v1, v2] (grow (redrawn wr d) os) fun e w'' => e = .returned (.bool (decide (xw = yw))) ∧ ∃ p : Regrown, w'' = grow (redrawn wr p.d) p.os := fun d os =>
     Calls.regrown_of ((texts_any v1 v2 xw yw _ (R1.kept (KR d os)) (R2.kept (KR d os)) hxw).mono fun e w' h => ⟨h.2, h.1⟩)
    obtain ⟨ao3, c3, rfl, _⟩ := R1
    obtain ⟨ao4, c4, rfl, _⟩ := R2
    have HKR := hid' KR
    clear KR p1 p1' p2 p2' hc1 hc2 hb1 hb2 hx hy
    obtain ⟨bt, hbt⟩ : ∃ bt, bt = decide (xw = yw) := ⟨_, rfl⟩
    rw [← hbt] at cS
    have HBT := hid' hbt
    clear hbt
    by_cases hxy : (xa : Int) = (ya : Int)
    ·
     have hxy' : ((xa : Int) == (ya : Int)) = true := by simpa using hxy
     cases bt
     ·
      refine wp_region_quiet_below (by kernel_rfl) (by kernel_rfl) ?_
      repeat (quiet_step (exact cS _ _))
      refine wpQuiet_nil ?_
      intro _ hw'
      obtain ⟨⟨dq, osq⟩, hw''⟩ := hw'
      subst hw''
      go_wp2_with fail
      go_ret
      refine ⟨HKR.out dq osq, ?_⟩
      rw [show decide (a = b) = false from decide_eq_false (fun e => by
       have h1 := HX.out.1
       rw [e, ← HX.out.2] at h1
       cases h1
       exact absurd HBT.out (by simp))]
      rfl
     ·
      refine wp_region_quiet_below (by kernel_rfl) (by kernel_rfl) ?_
      repeat (quiet_step (exact cS _ _))
      refine wpQuiet_nil ?_
      intro _ hw'
      obtain ⟨⟨dq, osq⟩, hw''⟩ := hw'
      subst hw''
      go_wp2_with fail
      go_roundw
      case rel =>
       refine ⟨k + 1, by omega, by go_num, HKR.out dq osq, fun j hj => ?_⟩
       by_cases e : j = k
       ·
        subst e
        rw [← HX.out.1, ← HX.out.2]
        have h1 := HBT.out
        have h2 : xw = yw := by simpa using h1.symm
        have h3 : xa = ya := by omega
        rw [h2, h3]
       ·
        exact H.out.2 j (by omega)
      case measure => show n - ((k : Int) + 1).toNat < n - (k : Int).toNat; omega
    ·
     have hxy' : ((xa : Int) == (ya : Int)) = false := by simpa using hxy
     clear cS
     refine wp_region_quiet_below (by kernel_rfl) (by kernel_rfl) ?_
     repeat (quiet_step (fail))
     refine wpQuiet_nil ?_
     intro _ hw'
     obtain ⟨⟨dq, osq⟩, hw''⟩ := hw'
     subst hw''
     go_wp2_with fail
     go_ret
     refine ⟨HKR.out dq osq, ?_⟩
     rw [show decide (a = b) = false from decide_eq_false (fun e => by
      have h1 := HX.out.1
      rw [e, ← HX.out.2] at h1
      cases h1
      exact hxy rfl)]
     rfl
   ·
    have hi : ¬ (k : Int) < (n : Int) := by omega
    have HD := hid' (show decide (a = b) = true from decide_eq_true (eq_of_getD (0, []) (by rw [← HN.out.1, ← HN.out.2]) (fun j hj => H.out.2 j (by rw [← HN.out.1] at hj; omega))))
    go_wp2_with fail
    go_ret
    exact ⟨H.out.1, by rw [HD.out]; rfl⟩
 ·
  have hz : ¬ (n : Int) = (b.length : Int) := by omega
  have hz' : ((n : Int) == (b.length : Int)) = false := by simpa using hz
  have HD := hid' (show decide (a = b) = false from decide_eq_false (fun e => hne (by rw [hn, e])))
  clear hn h1 h2
  generalize b.length = m at *
  go_enter Tryd.func11, Tryd.ntmps11
  go_wp2_with fail
  go_ret
  exact ⟨Kept.refl _, by rw [HD.out]; rfl⟩
end X
end Go.Proofs.YtbmmiepjkamaeaaDoor

namespace Go.Proofs.YtbmmiepjkamaeaaDoor
open Go.RowKit
namespace X
def awk : List Ln := [(2, [[114, 49], [97], [98]]), (4, [[120]])]
theorem awk_lines : linesOf [42, 32, 116, 10, 82, 49, 32, 97, 10, 43, 32, 66, 59, 99, 10, 120] = (awk, 0, 0) := by decide +kernel
theorem al_new (W : World) (C : Array Value) (t : TypeId) (b j : Nat) (u : Value) (hb : b = W.heap.size) (hj : C[j]? = some u) : (W.alloc (.cells C t)).cell? ⟨b, j, none⟩ = some u := by
 subst hb
 exact (World.cell?_alloc_mark W C t (0, 0) j).trans hj
theorem al_old {W : World} {b j : Nat} {u : Value} (o : Obj) (h : W.cell? ⟨b, j, none⟩ = some u) : (W.alloc o).cell? ⟨b, j, none⟩ = some u :=
 (World.cell?_alloc_old W o ⟨b, j, none⟩ (Nat.ne_of_lt (World.block_lt_of_cell? _ _ h))).trans h
theorem awk_rl (w : World) : RL (((w.alloc (.cells #[.string ⟨#[114, 49]⟩, .string ⟨#[97]⟩, .string ⟨#[98]⟩] 9)).alloc (.cells #[.string ⟨#[120]⟩] 9)).alloc (.cells #[.int .i64 2, .slice (some ⟨w.heap.size, 0, none⟩) 3 3, .int .i64 4, .slice (some ⟨w.heap.size + 1, 0, none⟩) 1 1] 32)) (.slice (some ⟨w.heap.size + 1 + 1, 0, none⟩) 2 2) awk := by
 refine ⟨_, 2, rfl, fun _ => ⟨w.heap.size + 1 + 1, 0, rfl, by simp, fun j hj => ?_⟩⟩
 have hj : j < 2 := hj
 rcases (show j = 0 ∨ j = 1 by omega) with rfl | rfl
 ·
  refine ⟨al_new _ _ _ _ _ _ (by simp) rfl, .slice (some ⟨w.heap.size, 0, none⟩) 3 3, al_new _ _ _ _ _ _ (by simp) rfl, some ⟨w.heap.size, 0, none⟩, 3, rfl, fun _ => ⟨w.heap.size, 0, rfl, by simp; omega, fun i hi => ?_⟩⟩
  have hi : i < 3 := hi
  rcases (show i = 0 ∨ i = 1 ∨ i = 2 by omega) with rfl | rfl | rfl
  ·
   exact al_old _ (al_old _ (al_new _ _ _ _ _ _ rfl rfl))
  ·
   exact al_old _ (al_old _ (al_new _ _ _ _ _ _ rfl rfl))
  ·
   exact al_old _ (al_old _ (al_new _ _ _ _ _ _ rfl rfl))
 ·
  refine ⟨al_new _ _ _ _ _ _ (by simp) rfl, .slice (some ⟨w.heap.size + 1, 0, none⟩) 1 1, al_new _ _ _ _ _ _ (by simp) rfl, some ⟨w.heap.size + 1, 0, none⟩, 1, rfl, fun _ => ⟨w.heap.size + 1, 0, rfl, by simp, fun i hi => ?_⟩⟩
  have hi : i < 1 := hi
  obtain rfl : i = 0 := by omega
  exact al_old _ (al_new _ _ _ _ _ _ (by simp) rfl)
set_option maxRecDepth 100000 in
set_option maxHeartbeats 4000000 in
theorem awake_any (w : World) : Calls Tryd.prog 8 #[] w fun e w' => Kept w w' ∧ e = .returned (.bool true) := by
 have hL := lines_any ⟨#[42, 32, 116, 10, 82, 49, 32, 97, 10, 43, 32, 66, 59, 99, 10, 120]⟩ w (by decide)
 rw [show (⟨#[42, 32, 116, 10, 82, 49, 32, 97, 10, 43, 32, 66, 59, 99, 10, 120]⟩ : ByteArray).data.toList = [42, 32, 116, 10, 82, 49, 32, 97, 10, 43, 32, 66, 59, 99, 10, 120] from rfl, awk_lines] at hL
 go_enter Tryd.func8, Tryd.ntmps8
 go_wp2_with fail
 refine hL.mono ?_
 rintro e w1 ⟨hk, v, vs, rfl, own⟩
 have HK := hid' (And.intro hk own.rl)
 clear hk own hL
 go_wp2_with fail
 have hA := awk_rl w1
 have hK2 := ((((Kept.refl w1).alloc (.cells #[.string ⟨#[114, 49]⟩, .string ⟨#[97]⟩, .string ⟨#[98]⟩] 9)).alloc (.cells #[.string ⟨#[120]⟩] 9)).alloc (.cells #[.int .i64 2, .slice (some ⟨w1.heap.size, 0, none⟩) 3 3, .int .i64 4, .slice (some ⟨w1.heap.size + 1, 0, none⟩) 1 1] 32))
 refine (same_any _ _ awk awk _ (HK.out.2.kept hK2) hA (by decide) (by decide)).mono ?_
 rintro e w2 ⟨hk2, rfl⟩
 have HK2 := hid' ((HK.out.1.trans hK2).trans hk2)
 rw [decide_eq_true (rfl : awk = awk)]
 clear hA hK2 hk2
 go_wp2_with fail
 go_ret
 exact ⟨HK2.out, rfl⟩
end X
end Go.Proofs.YtbmmiepjkamaeaaDoor

namespace Go.Proofs.YtbmmiepjkamaeaaDoor
open Go.RowKit
namespace X
def mpTo (f : UInt8 → UInt8) (k : Nat) (l : List UInt8) : List UInt8 := (l.take k).map f ++ l.drop k
section
variable (f : UInt8 → UInt8)
end
theorem LnIs.rl {B : Nat} {w : World} {e : Ending} {r : List Ln × Nat × Nat} (h : LnIs B w e r) : ∃ v, e = .returned (.tuple #[v, .int .i64 (r.2.1 : Int), .int .i64 (r.2.2 : Int)]) ∧ RL w v r.1 := by
 obtain ⟨v, vs, he, own⟩ := h
 exact ⟨v, he, own.rl⟩
theorem lines_sizes (T : List UInt8) : (linesOf T).1.length ≤ 70000 ∧ (linesOf T).2.1 ≤ 70000 ∧ ∀ x ∈ (linesOf T).1, x.2.length ≤ 64 := by
 by_cases h : 65536 < T.length
 ·
  rw [lines_long h]; exact ⟨by decide, by decide, fun x hx => by simp at hx⟩
 ·
  have hc := cut10_len_le T
  refine ⟨?_, ?_, fun x hx => ((lines_ok T).1 x hx).2.1⟩
  ·
   rw [lines_go h]
   have key : ∀ (ls : List (List UInt8)) (told : List Ln) (n : Nat), (go told n ls).1.length ≤ told.length + ls.length := by
    intro ls
    induction ls with
    | nil => intro told n; exact Nat.le_refl _
    | cons l ls ih =>
     intro told n
     rw [go]
     rcases ht : tk told (n + 1) l with e | t
     ·
      simp
     ·
      have h1 := ih t (n + 1)
      have h2 := tk_len ht
      simp only [List.length_cons]
      omega
   have := key (cut10 T) [] 0
   simp at this
   omega
  ·
   rw [lines_go h]
   have := go_place (cut10 T) [] 0
   omega
theorem lines_ats (T : List UInt8) : ∀ x ∈ (linesOf T).1, x.1 ≤ 70000 := by
 by_cases h : 65536 < T.length
 ·
  rw [lines_long h]; exact fun x hx => by simp at hx
 ·
  rw [lines_go h]
  have hc := cut10_len_le T
  have := (go_rise (cut10 T) [] 0 trivial (by simp)).2
  intro x hx
  have := this x hx
  omega
end X
end Go.Proofs.YtbmmiepjkamaeaaDoor

namespace Go.Proofs.YtbmmiepjkamaeaaDoor
open Go.RowKit
namespace X
theorem app_list (a b : ByteArray) : (a ++ b).data.toList = a.data.toList ++ b.data.toList := by simp [ByteArray.data_append]
end X
end Go.Proofs.YtbmmiepjkamaeaaDoor

namespace Go.Proofs.YtbmmiepjkamaeaaDoor
open Go.RowKit
namespace X
theorem emit_bd {cur : List UInt8} {N : Nat} (h : cur.length ≤ N) : ∀ w ∈ emit cur, w.length ≤ N := by
 intro w hw
 unfold emit at hw
 split at hw
 ·
  simp at hw
 ·
  rw [List.mem_singleton] at hw
  subst hw
  simpa using h
theorem wd_bd {N : Nat} (L : List UInt8) : ∀ cur : List UInt8, cur.length + L.length ≤ N → ∀ w ∈ wd cur L, w.length ≤ N := by
 induction L with
 | nil => intro cur h; exact emit_bd (by simpa using h)
 | cons c L ih =>
  intro cur h w hw
  rw [wd] at hw
  rw [List.length_cons] at h
  split at hw
  ·
   rcases List.mem_append.1 hw with hw | hw
   ·
    exact emit_bd (by omega) w hw
   ·
    exact ih [] (by simp; omega) w hw
  ·
   exact ih _ (by simp; omega) w hw
theorem words_bd {l : List UInt8} {N : Nat} (h : l.length ≤ N) : ∀ w ∈ wordsL l, w.length ≤ N := by
 refine wd_bd _ [] ?_
 have := (List.takeWhile_sublist (fun c => !isR c) (l := l)).length_le
 unfold said
 simp
 omega
theorem tk_bd {told t : List Ln} {n N : Nat} {l : List UInt8} (hl : l.length ≤ N) (h : ∀ x ∈ told, ∀ w ∈ x.2, w.length ≤ N) (ht : tk told n l = .ok t) : ∀ x ∈ t, ∀ w ∈ x.2, w.length ≤ N := by
 have hw := words_bd hl
 unfold tk at ht
 split at ht
 ·
  cases ht
 ·
  rcases hws : wordsL l with _ | ⟨w0, ws⟩
  ·
   rw [hws] at ht; cases ht; exact h
  ·
   rw [hws] at ht hw
   rw [kd] at ht
   by_cases h42 : isC 42 w0 = true
   ·
    rw [if_pos h42] at ht; cases ht; exact h
   ·
    rw [if_neg h42] at ht
    by_cases h43 : isC 43 w0 = true
    ·
     rw [if_pos h43] at ht
     simp only at ht
     have hnew : ∀ w ∈ (if w0.tail = [] then ws else w0.tail :: ws), w.length ≤ N := by
      intro w hw'
      split at hw'
      ·
       exact hw w (by simp [hw'])
      ·
       rcases List.mem_cons.1 hw' with rfl | hw'
       ·
        have := hw w0 (by simp)
        rw [List.length_tail]
        omega
       ·
        exact hw w (by simp [hw'])
     generalize (if w0.tail = [] then ws else w0.tail :: ws) = wn at ht hnew
     rcases List.eq_nil_or_concat told with rfl | ⟨t0, y, rfl⟩
     ·
      cases ht
     ·
      simp only [List.concat_eq_append, List.getLast?_concat, List.dropLast_concat] at ht
      by_cases h6 : 64 < (y.2 ++ wn).length
      ·
       rw [if_pos h6] at ht; cases ht
      ·
       rw [if_neg h6] at ht
       cases ht
       intro x hx w hw'
       rcases List.mem_append.1 hx with hx | hx
       ·
        exact h x (by simp [hx]) w hw'
       ·
        rw [List.mem_singleton] at hx; subst hx
        rcases List.mem_append.1 hw' with hw' | hw'
        ·
         exact h y (by simp) w hw'
        ·
         exact hnew w hw'
    ·
     rw [if_neg h43] at ht
     simp only at ht
     split at ht
     ·
      cases ht
     ·
      cases ht
      intro x hx w hw'
      rcases List.mem_append.1 hx with hx | hx
      ·
       exact h x hx w hw'
      ·
       rw [List.mem_singleton] at hx; subst hx
       exact hw w hw'
theorem go_bd {N : Nat} (ls : List (List UInt8)) : ∀ (told : List Ln) (n : Nat), (∀ l ∈ ls, l.length ≤ N) → (∀ x ∈ told, ∀ w ∈ x.2, w.length ≤ N) → ∀ x ∈ (go told n ls).1, ∀ w ∈ x.2, w.length ≤ N := by
 induction ls with
 | nil => intro told n _ h; exact h
 | cons l ls ih =>
  intro told n hl h
  rw [go]
  rcases ht : tk told (n + 1) l with e | t
  ·
   intro x hx; simp at hx
  ·
   exact ih t (n + 1) (fun y hy => hl y (by simp [hy])) (tk_bd (hl l (by simp)) h ht)
theorem lines_bd (T : List UInt8) : ∀ x ∈ (linesOf T).1, ∀ w ∈ x.2, w.length ≤ 65536 := by
 by_cases h : 65536 < T.length
 ·
  rw [lines_long h]; exact fun x hx => by simp at hx
 ·
  rw [lines_go h]
  exact go_bd _ [] 0 (fun l hl => Nat.le_trans (cut10_sum T l hl) (by omega)) (by simp)
theorem outL_snoc (l : List Ln) (k : Nat) (h : k < l.length) : outL (l.take (k + 1)) = outL (l.take k) ++ joinW (l.getD k (0, [])).2 ++ [10] := by
 unfold outL
 rw [List.take_succ_eq_append_getElem h, List.getD_eq_getElem?_getD, List.getElem?_eq_getElem h, List.flatMap_append, List.flatMap_cons, List.flatMap_nil, List.append_nil, List.append_assoc]
 rfl
theorem joinW_take (ws : List (List UInt8)) (j : Nat) (h : j < ws.length) : joinW (ws.take (j + 1)) = if j = 0 then ws.getD j [] else joinW (ws.take j) ++ 32 :: ws.getD j [] := by
 rw [List.take_succ_eq_append_getElem h, List.getD_eq_getElem?_getD, List.getElem?_eq_getElem h]
 by_cases h0 : j = 0
 ·
  subst h0; simp [joinW]
 ·
  rw [if_neg h0, joinW_snoc]
  ·
   rfl
  ·
   intro e
   have := congrArg List.length e
   rw [List.length_take, List.length_nil] at this
   omega
def prv (l : List Ln) (k : Nat) : Nat := if k = 0 then 0 else (l.getD (k - 1) (0, [])).1
theorem rise_at (l : List Ln) : ∀ (p : Nat), Rise p l → ∀ k, k < l.length → (if k = 0 then p else (l.getD (k - 1) (0, [])).1) < (l.getD k (0, [])).1 := by
 induction l with
 | nil => intro p _ k h; simp at h
 | cons x l ih =>
  intro p h k hk
  cases k with
  | zero => exact h.1
  | succ k =>
   have := ih x.1 h.2 k (by simpa using hk)
   rw [if_neg (by omega), Nat.add_sub_cancel]
   cases k with
   | zero => exact this
   | succ k => rw [if_neg (by omega), Nat.add_sub_cancel] at this; exact this
theorem okC_of {c : UInt8} (h : okC c = true) : 33 ≤ c.toNat ∧ c.toNat ≤ 126 ∧ c.toNat ≠ 59 ∧ ¬ (65 ≤ c.toNat ∧ c.toNat ≤ 90) := of_decide_eq_true h
end X
end Go.Proofs.YtbmmiepjkamaeaaDoor

namespace Go.Proofs.YtbmmiepjkamaeaaDoor
open Go.RowKit
namespace X
open Go.Sort (grow) in
set_option maxRecDepth 100000 in
set_option maxHeartbeats 8000000 in
theorem lexWords_any (s : ByteArray) (w : World) (hs : s.size ≤ 9223372036854775807) : Calls Tryd.prog 4 #[.string s] w fun e w' => Kept w w' ∧ e = .returned (.bool true) := by
 go_enter Tryd.func4, Tryd.ntmps4
 go_wp2_with fail
 refine (awake_any _).mono ?_
 rintro e w1 ⟨hk1, rfl⟩
 have HK1 := hid' hk1
 clear hk1
 have hL := lines_any s
 have hzx := lines_sizes s.data.toList
 have hty := lines_ats s.data.toList
 have hbd := lines_bd s.data.toList
 have hok := lines_ok s.data.toList
 have her := lines_err s.data.toList
 generalize linesOf s.data.toList = X at hL hzx hty hbd hok her
 go_wp2_with fail
 refine (hL w1 hs).mono ?_
 rintro e w2 ⟨hk2, hl2⟩
 obtain ⟨v2, rfl, rl2⟩ := hl2.rl
 have HK2 := hid' (HK1.out.trans hk2)
 obtain ⟨a2, c2, rfl, hx2⟩ := rl2
 clear hl2 hk2 hL HK1
 by_cases hf : X.2.2 = 0
 ·
  have hf' : (X.2.2 : Int) = 0 := by omega
  have hzl := hzx.1
  obtain ⟨n, hn⟩ : ∃ n, n = X.1.length := ⟨_, rfl⟩
  rw [← hn] at hx2 hzl ⊢
  have H2 := hid' hx2
  have HN := hid' hn
  have HX := hid' (And.intro hok.1 (And.intro (rise_at X.1 0 hok.2) (And.intro hbd hty)))
  clear hx2 hn hzx hf hok hbd hty her
  go_wp2_with fail
  go_loopw [6, 7, 32] (fun vo vn vi wr => ∃ (k : Nat) (o : ByteArray), k ≤ n ∧ vo = .string o ∧ vn = .int .i64 (prv X.1 k : Int) ∧ vi = .int .i64 (k : Int) ∧ o.size ≤ k * 5000000 ∧ Hid (Kept w2 wr ∧ o.data.toList = outL (X.1.take k))) (fun _ _ vi _ => n - (intOf vi).toNat)
  case atStart => exact ⟨0, ⟨#[]⟩, Nat.zero_le _, rfl, rfl, rfl, by decide, Kept.refl _, rfl⟩
  case round =>
   obtain ⟨k, o, hk, rfl, rfl, rfl, hos, H⟩ := hrel
   by_cases hlt : k < n
   ·
    have hi : (k : Int) < (n : Int) := by omega
    have hkx : k < X.1.length := by rw [← HN.out]; exact hlt
    obtain ⟨b1, o1, rfl, hb1, hc1⟩ := H2.out (by omega)
    obtain ⟨p1, v1, p1', R1⟩ := hc1 k hlt
    have hmem : X.1.getD k (0, []) ∈ X.1 := by
     rw [List.getD_eq_getElem?_getD, List.getElem?_eq_getElem hkx]
     exact List.getElem_mem hkx
    have hOk := HX.out.1 _ hmem
    have hBd := HX.out.2.2.1 _ hmem
    have hTy := HX.out.2.2.2 _ hmem
    have hRs := HX.out.2.1 k hkx
    have hOut := outL_snoc X.1 k hkx
    have hPrv : prv X.1 (k + 1) = (X.1.getD k (0, [])).1 := by unfold prv; rw [if_neg (by omega), Nat.add_sub_cancel]
    obtain ⟨x, hx⟩ : ∃ x, x = X.1.getD k (0, []) := ⟨_, rfl⟩
    rw [← hx] at p1 R1 hOk hBd hTy hRs hOut hPrv
    obtain ⟨xa, xw⟩ := x
    simp only at p1 R1 hOk hBd hTy hRs hOut hPrv
    have hRs' : prv X.1 k < xa := hRs
    obtain ⟨z, hz⟩ : ∃ z, z = prv X.1 k := ⟨_, rfl⟩
    rw [← hz] at hRs' ⊢
    have q0 := (Below.cell H.out.1 (p := ⟨b1, o1 + k * 2, none⟩) hb1).trans p1
    have q1 := (Below.cell H.out.1 (p := ⟨b1, o1 + k * 2 + 1, none⟩) hb1).trans p1'
    have hR1 := R1.kept H.out.1
    obtain ⟨ao, c, rfl, hRw⟩ := R1
    have HP := hid' (And.intro hPrv (And.intro hOut (And.intro hOk (And.intro hBd hR1))))
    clear p1 p1' hc1 hb1 hmem hOut hPrv hRs hR1 hRw hx hz
    go_upto_region 10 with fail
    have hKa := (Kept.refl wr).alloc (.cells #[.int .i64 (xa : Int), .slice ao xw.length c] 32)
    have qa := al_new wr #[.int .i64 (xa : Int), .slice ao xw.length c] 32 wr.heap.size 0 (.int .i64 (xa : Int)) rfl rfl
    have qb := al_new wr #[.int .i64 (xa : Int), .slice ao xw.length c] 32 wr.heap.size 1 (.slice ao xw.length c) rfl rfl
    generalize wr.alloc (.cells #[.int .i64 (xa : Int), .slice ao xw.length c] 32) = W at hKa qa qb ⊢
    obtain ⟨p, hp⟩ : ∃ p, p = wr.heap.size := ⟨_, rfl⟩
    rw [← hp] at qa qb ⊢
    have hRW := HP.out.2.2.2.2.kept hKa
    obtain ⟨ao', c', hv, hRW⟩ := hRW
    simp only [Value.slice.injEq] at hv
    obtain ⟨rfl, _, rfl⟩ := hv
    have hm0 : 0 < xw.length := List.length_pos_iff.2 hOk.1
    obtain ⟨b2, o2, rfl, _, hcw⟩ := hRW hm0
    have h64 := hOk.2.1
    have hw0 : OkW (xw.getD 0 []) := hOk.2.2.1 _ (by
     rw [List.getD_eq_getElem?_getD, List.getElem?_eq_getElem hm0]
     exact List.getElem_mem hm0)
    have hhd := hOk.2.2.2 (xw.getD 0 []) (by rw [List.head?_eq_getElem?, List.getElem?_eq_getElem hm0, List.getD_eq_getElem?_getD, List.getElem?_eq_getElem hm0]; rfl)
    have c0 := hcw 0 hm0
    have ht0 : 0 < (bs (xw.getD 0 [])).size := by rw [bs_size]; exact List.length_pos_iff.2 hw0.1
    have i1 := isC_at 42 (xw.getD 0 []) ht0
    have i2 := isC_at 43 (xw.getD 0 []) ht0
    rw [hhd.1] at i1
    rw [hhd.2] at i2
    have i1' : ¬ ((bs (xw.getD 0 []))[0].toNat : Int) = 42 := by simpa using i1.symm
    have i2' : ¬ ((bs (xw.getD 0 []))[0].toNat : Int) = 43 := by simpa using i2.symm
    obtain ⟨m, hm⟩ : ∃ m, m = xw.length := ⟨_, rfl⟩
    have HQ := hid' (And.intro (H.out.1.trans hKa) (And.intro hm (And.intro hOk (And.intro hBd hcw))))
    rw [← hm] at qb hm0 h64 ⊢
    rw [Nat.add_zero] at c0
    clear hKa hp hRW hcw hOk hBd hw0 hhd i1 i2 hm
    generalize bs (xw.getD 0 []) = t0 at *
    have b1' : ((t0[0].toNat : Int) == 42) = false := by simpa using i1'
    have b2' : ((t0[0].toNat : Int) == 43) = false := by simpa using i2'
    have t0z : (0 : Int) < (t0.size : Int) := by omega
    have mz : (0 : Int) < (m : Int) := by omega
    have mz' : ¬ m = 0 := by omega
    have mz'' : ¬ (m : Int) = 0 := by omega
    have mb : ((m : Int) == 0) = false := by simpa using mz''
    have zx : (z : Int) < (xa : Int) := by omega
    have zx' : ¬ (xa : Int) ≤ (z : Int) := by omega
    go_wp2_with fail
    go_loopw [6, 67] (fun vo vi wx => ∃ (j : Nat) (o' : ByteArray), j ≤ m ∧ vo = .string o' ∧ vi = .int .i64 (j : Int) ∧ o'.size ≤ k * 5000000 + j * 65537 ∧ Hid (o'.data.toList = outL (X.1.take k) ++ joinW (xw.take j)) ∧ wx = W) (fun _ vi _ => m - (intOf vi).toNat)
    case atStart => exact ⟨0, o, Nat.zero_le _, rfl, rfl, by rw [Nat.zero_mul, Nat.add_zero]; exact hos, hid' (by rw [H.out.2]; simp [joinW]), rfl⟩
    case round =>
     obtain ⟨j, o', hj, rfl, rfl, hos', HO, rfl⟩ := hrel
     by_cases hltj : j < m
     ·
      have hij : (j : Int) < (m : Int) := by omega
      have hjw : j < xw.length := by rw [← HQ.out.2.1]; exact hltj
      have cj := HQ.out.2.2.2.2 j hjw
      have hmj : xw.getD j [] ∈ xw := by
       rw [List.getD_eq_getElem?_getD, List.getElem?_eq_getElem hjw]
       exact List.getElem_mem hjw
      have hwj := HQ.out.2.2.1.2.2.1 _ hmj
      have hbj := HQ.out.2.2.2.1 _ hmj
      have hjt := joinW_take xw j hjw
      obtain ⟨y, hy⟩ : ∃ y, y = xw.getD j [] := ⟨_, rfl⟩
      rw [← hy] at cj hwj hbj hjt
      obtain ⟨t, ht⟩ : ∃ t, t = bs y := ⟨_, rfl⟩
      have hty' : t.data.toList = y := by rw [ht]; rfl
      have htz : t.size = y.length := by rw [ht, bs_size]
      rw [← ht] at cj
      have htn : t.toList.isEmpty = false := by
       rw [ByteArray.toList_eq, hty', Bool.eq_false_iff]
       intro e
       exact hwj.1 (List.isEmpty_iff.1 e)
      have hts : t.size ≤ 65536 := by omega
      have HB := hid' (show ∀ i (h : i < t.size), okC t[i] = true from fun i h => hwj.2 _ (by
       rw [← hty']
       exact List.mem_of_getElem? (list_at t i h)))
      have HY := hid' (And.intro hty' hjt)
      clear hjt hwj hbj hmj hy ht hty' htz
      go_wp2_with fail
      go_loopw [12] (fun vi wx => ∃ i : Nat, i ≤ t.size ∧ vi = .int .i64 (i : Int) ∧ wx = wr) (fun vi _ => t.size - (intOf vi).toNat)
      case atStart => exact ⟨0, Nat.zero_le _, rfl, rfl⟩
      case round =>
       obtain ⟨i, hit, rfl, rfl⟩ := hrel
       by_cases hlti : i < t.size
       ·
        have hii : (i : Int) < (t.size : Int) := by omega
        have hcc := okC_of (HB.out i hlti)
        have e1 : ¬ (t[i].toNat : Int) < 33 := by omega
        have e2 : ¬ (126 : Int) < (t[i].toNat : Int) := by omega
        have e3 : ¬ (t[i].toNat : Int) = 59 := by omega
        have e3' : ((t[i].toNat : Int) == 59) = false := by simpa using e3
        by_cases e4 : (65 : Int) ≤ (t[i].toNat : Int)
        ·
         have e5 : ¬ (t[i].toNat : Int) ≤ 90 := by omega
         clear hcc
         go_wp2_with fail
         go_roundw
         case rel => exact ⟨i + 1, by omega, by go_num, trivial⟩
         case measure => show t.size - ((i : Int) + 1).toNat < t.size - (i : Int).toNat; omega
        ·
         clear hcc
         go_wp2_with fail
         go_roundw
         case rel => exact ⟨i + 1, by omega, by go_num, trivial⟩
         case measure => show t.size - ((i : Int) + 1).toNat < t.size - (i : Int).toNat; omega
       ·
        have hii : ¬ (i : Int) < (t.size : Int) := by omega
        by_cases j0 : j = 0
        ·
         subst j0
         have hcat : ¬ 9223372036854775807 < o'.size + t.size := by omega
         have HC := hid' (And.intro (show (o' ++ t).size ≤ k * 5000000 + (0 + 1) * 65537 by rw [ByteArray.size_append]; omega) (show (o' ++ t).data.toList = outL (X.1.take k) ++ joinW (xw.take (0 + 1)) by
          rw [app_list, HO.out, HY.out.1, HY.out.2, if_pos rfl]
          simp [joinW]))
         go_wp2_with fail
         go_roundw
         case rel => exact ⟨0 + 1, _, by omega, rfl, by go_num, HC.out.1, HC.out.2, trivial⟩
         case measure => show m - ((0 : Int) + 1).toNat < m - (0 : Int).toNat; omega
        ·
         have j0' : (0 : Int) < (j : Int) := by omega
         have hs1 : (⟨#[32]⟩ : ByteArray).size = 1 := rfl
         have hcat1 : ¬ 9223372036854775807 < o'.size + (⟨#[32]⟩ : ByteArray).size := by rw [hs1]; omega
         have hcat2 : ¬ 9223372036854775807 < (o' ++ (⟨#[32]⟩ : ByteArray)).size + t.size := by rw [ByteArray.size_append, hs1]; omega
         have HC := hid' (And.intro (show ((o' ++ (⟨#[32]⟩ : ByteArray)) ++ t).size ≤ k * 5000000 + (j + 1) * 65537 by rw [ByteArray.size_append, ByteArray.size_append, hs1]; omega) (show ((o' ++ (⟨#[32]⟩ : ByteArray)) ++ t).data.toList = outL (X.1.take k) ++ joinW (xw.take (j + 1)) by
          rw [app_list, app_list, HO.out, HY.out.1, HY.out.2, if_neg j0]
          simp))
         clear hs1
         go_wp2_with fail
         go_roundw
         case rel => exact ⟨j + 1, _, by omega, rfl, by go_num, HC.out.1, HC.out.2, trivial⟩
         case measure => show m - ((j : Int) + 1).toNat < m - (j : Int).toNat; omega
     ·
      have hij : ¬ (j : Int) < (m : Int) := by omega
      have hs1 : (⟨#[10]⟩ : ByteArray).size = 1 := rfl
      have hcat : ¬ 9223372036854775807 < o'.size + (⟨#[10]⟩ : ByteArray).size := by rw [hs1]; omega
      have HC := hid' (And.intro (show (o' ++ (⟨#[10]⟩ : ByteArray)).size ≤ (k + 1) * 5000000 by rw [ByteArray.size_append, hs1]; omega) (show (o' ++ (⟨#[10]⟩ : ByteArray)).data.toList = outL (X.1.take (k + 1)) by
       have e : xw.take j = xw := List.take_of_length_le (by rw [← HQ.out.2.1]; omega)
       rw [app_list, HO.out, HP.out.2.1, e]))
      clear hs1
      have HZ := hid' HP.out.1
      go_wp2_with fail
      go_roundw
      case rel => exact ⟨k + 1, _, by omega, rfl, by rw [HZ.out], by go_num, HC.out.1, HQ.out.1, HC.out.2⟩
      case measure => show n - ((k : Int) + 1).toNat < n - (k : Int).toNat; omega
   ·
    have hi : ¬ (k : Int) < (n : Int) := by omega
    have hol : o.data.toList = outL X.1 := by rw [H.out.2, List.take_of_length_le (by rw [← HN.out]; omega)]
    by_cases hbig : 65536 < o.size
    ·
     have hbig' : (65536 : Int) < (o.size : Int) := by omega
     go_wp2_with fail
     go_ret
     exact ⟨HK2.out.trans H.out.1, rfl⟩
    ·
     have hbig' : ¬ (65536 : Int) < (o.size : Int) := by omega
     have hL := lines_any o wr (by omega)
     rw [hol, lines_out HX.out.1 (by rw [← hol, len_list]; exact hbig)] at hL
     have hnl := num1_len X.1 0
     have HT := hid' (show ∀ i, i < n → ((num1 0 X.1).getD i (0, [])).1 = i + 1 ∧ ((num1 0 X.1).getD i (0, [])).2 = (X.1.getD i (0, [])).2 by
      intro i hi'
      have hix : i < X.1.length := by rw [← HN.out]; exact hi'
      have := num1_at X.1 0 i X.1[i] (List.getElem?_eq_getElem hix)
      rw [List.getD_eq_getElem?_getD, this, List.getD_eq_getElem?_getD, List.getElem?_eq_getElem hix]
      exact ⟨by simp, rfl⟩)
     generalize num1 0 X.1 = M at hL hnl HT
     rw [← HN.out] at hnl
     clear hol
     go_wp2_with fail
     refine hL.mono ?_
     rintro e w3 ⟨hk3, hl3⟩
     obtain ⟨v3, rfl, rl3⟩ := hl3.rl
     have HK3 := hid' (H.out.1.trans hk3)
     obtain ⟨a3, c3, rfl, hx3⟩ := rl3
     simp only at hx3 ⊢
     rw [hnl] at hx3 ⊢
     have H5 := hid' hx3
     clear hx3 hl3 hk3 hL hnl
     go_wp2_with fail
     go_loopw [139] (fun vi wq => ∃ k2 : Nat, k2 ≤ n ∧ vi = .int .i64 (k2 : Int) ∧ Hid (Kept w3 wq)) (fun vi _ => n - (intOf vi).toNat)
     case atStart => exact ⟨0, Nat.zero_le _, rfl, Kept.refl _⟩
     case round =>
      obtain ⟨k2, hk2, rfl, H6⟩ := hrel
      by_cases hlt2 : k2 < n
      ·
       have hi2 : (k2 : Int) < (n : Int) := by omega
       have hn0 : 0 < n := by omega
       obtain ⟨b1, o1, rfl, hb1, hc1⟩ := H5.out hn0
       obtain ⟨b2, o2, rfl, hb2, hc2⟩ := H2.out hn0
       obtain ⟨p1, v1, p1', R1⟩ := hc1 k2 hlt2
       obtain ⟨p2, v2, p2', R2⟩ := hc2 k2 hlt2
       have hkx : k2 < X.1.length := by rw [← HN.out]; exact hlt2
       have ht := HT.out k2 hlt2
       rw [ht.1] at p1
       rw [ht.2] at R1
       have hmem : X.1.getD k2 (0, []) ∈ X.1 := by
        rw [List.getD_eq_getElem?_getD, List.getElem?_eq_getElem hkx]
        exact List.getElem_mem hkx
       have hxw := (HX.out.1 _ hmem).2.1
       have R2 := R2.kept HK3.out
       obtain ⟨xw, hx⟩ : ∃ x, x = (X.1.getD k2 (0, [])).2 := ⟨_, rfl⟩
       rw [← hx] at R1 R2 hxw
       clear hx ht hmem
       have e3 : ((k2 + 1 : Nat) : Int) = (k2 : Int) + 1 := by omega
       rw [e3] at p1
       clear e3
       go_upto_region 37 with fail
       have KR : ∀ d os, Kept w3 (grow (redrawn wr d) os) := fun d os => H6.out.trans (below_regrown wr d os)
       have hb2' : b2 < w3.heap.size := Nat.lt_of_lt_of_le hb2 HK3.out.size
       have p2'' := (Below.cell HK3.out (p := ⟨b2, o2 + k2 * 2 + 1, none⟩) hb2).trans p2'
       have r1 : ∀ d os, (grow (redrawn wr d) os).cell? ⟨b1, o1 + k2 * 2, none⟩ = some (.int .i64 ((k2 : Int) + 1)) := fun d os => (Below.cell (KR d os) (p := ⟨b1, o1 + k2 * 2, none⟩) hb1).trans p1
       have r2 : ∀ d os, (grow (redrawn wr d) os).cell? ⟨b1, o1 + k2 * 2 + 1, none⟩ = some v1 := fun d os => (Below.cell (KR d os) (p := ⟨b1, o1 + k2 * 2 + 1, none⟩) hb1).trans p1'
       have r4 : ∀ d os, (grow (redrawn wr d) os).cell? ⟨b2, o2 + k2 * 2 + 1, none⟩ = some v2 := fun d os => (Below.cell (KR d os) (p := ⟨b2, o2 + k2 * 2 + 1, none⟩) hb2').trans p2''
       have cS : ∀ d os, Calls Tryd.prog 12 #[v1, v2] (grow (redrawn wr d) os) fun e w'' => e = .returned (.bool true) ∧ ∃ p : Regrown, w'' = grow (redrawn wr p.d) p.os := fun d os =>
        Calls.regrown_of ((texts_any v1 v2 xw xw _ (R1.kept (KR d os)) (R2.kept (KR d os)) (by omega)).mono fun e w' h => ⟨by rw [h.2, decide_eq_true rfl], h.1⟩)
       obtain ⟨ao3, c3', rfl, _⟩ := R1
       obtain ⟨ao4, c4', rfl, _⟩ := R2
       have HKR := hid' KR
       have q3 : IntKind.i64.wrap ((k2 : Int) + 1) = (k2 : Int) + 1 := by rw [IntKind.wrap_i64]; omega
       clear KR p1 p1' p2 p2' hc1 hc2 hb1 hb2 p2'' hb2'
       refine wp_region_quiet_below (by kernel_rfl) (by kernel_rfl) ?_
       repeat (quiet_step (exact cS _ _))
       refine wpQuiet_nil ?_
       intro _ hw'
       obtain ⟨⟨dq, osq⟩, hw''⟩ := hw'
       subst hw''
       go_wp2_with fail
       refine ⟨?rel, ?measure⟩
       case rel => exact ⟨_, _, _, _, _, _, _, _, _, _, _, _, _, _, _, _, _, _, _, _, _, _, _, _, _, _, _, _, ⟨k2 + 1, by omega, by go_num, HKR.out dq osq⟩, rfl⟩
       case measure => show n - ((k2 : Int) + 1).toNat < n - (k2 : Int).toNat; omega
      ·
       have hi2 : ¬ (k2 : Int) < (n : Int) := by omega
       go_wp2_with fail
       go_ret
       exact ⟨HK2.out.trans (HK3.out.trans H6.out), rfl⟩
 ·
  have hf' : ¬ (X.2.2 : Int) = 0 := by omega
  have hf'' : ((X.2.2 : Int) == 0) = false := by simpa using hf'
  have h0 : X.1.length = 0 := by
   rcases her with h | h
   ·
    exact absurd h hf
   ·
    rw [h.1]; rfl
  clear hx2 her hzx hok hbd hty hf
  generalize X.1.length = n at *
  subst h0
  go_wp2_with fail
  go_ret
  exact ⟨HK2.out, rfl⟩
end X
end Go.Proofs.YtbmmiepjkamaeaaDoor
