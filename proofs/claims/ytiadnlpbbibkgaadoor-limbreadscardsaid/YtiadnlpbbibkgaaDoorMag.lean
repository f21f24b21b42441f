/- appendDigits, magnitudeOf: digits read. -/
import Derived.Test.YtiadnlpbbibkgaaDoorPln
namespace Go.Proofs.YtiadnlpbbibkgaaDoor
open Go.RowKit

theorem owns_of_row {w : World} {B b N n : Nat} {f : Nat → Value} {o : List Nat} (h : w.rowIs b 38 N f) (hf : ∀ j, j < n → f j = .int .u32 ((o.getD j 0 : Nat) : Int)) (ho : o.length = n) (hn : n ≤ N) (hN : N ≤ maxLen) (hB : B ≤ b) :
    w.ownsRow B 38 1 (.slice (some ⟨b, 0, none⟩) n N) n (us o) := by
  obtain ⟨c, hc, hs, hcc⟩ := h
  refine ⟨by simp [us, ho], .inr ⟨b, N, c, rfl, hB, hc, hn, hN, by omega, ?_⟩⟩
  apply List.ext_getElem?
  intro j
  by_cases hj : j < n
  · rw [List.getElem?_take_of_lt (by omega), us_getD o j (by omega), ← hf j hj, Array.getElem?_toList, hcc j (by omega)]
  · rw [List.getElem?_eq_none (by rw [List.length_take, Array.length_toList]; omega), List.getElem?_eq_none (by simp [us]; omega)]

theorem row_of_owns {w : World} {B n : Nat} {v : Value} {l : List Nat} (h : w.ownsRow B 38 1 v n (us l)) (hn : 0 < n) : ∃ b N f, v = .slice (some ⟨b, 0, none⟩) n N ∧ B ≤ b ∧ n ≤ N ∧ N ≤ maxLen ∧ w.rowIs b 38 N f ∧ ∀ j, j < n → f j = .int .u32 ((l.getD j 0 : Nat) : Int) := by
  obtain ⟨h1, ⟨_, h0⟩ | ⟨b, N, cur, rfl, hB, hg, hnN, hm, hs, ht⟩⟩ := h
  · omega
  · refine ⟨b, N, fun j => (cur[j]?).getD undef, rfl, hB, hnN, hm, ⟨cur, hg, by omega, fun i hi => ?_⟩, fun j hj => ?_⟩
    · have hi' : i < cur.size := by omega
      simp [hi']
    · have hl : l.length = n := by simpa [us] using h1
      have e := us_getD l j (by omega)
      rw [← ht, List.getElem?_take_of_lt (by omega), Array.getElem?_toList] at e
      show (cur[j]?).getD undef = _
      rw [e]; rfl

theorem adig_step {l o : List Nat} {k c x s g : Nat} (hx : x = l.getD k 0) (hk : k < o.length) (hs : s = c + x * 1000000000)
    (h : M.val (o.take k) + 4294967296 ^ k * c = M.val (l.take k) * 1000000000 + g) :
    M.val ((o.set k (s % 4294967296)).take (k + 1)) + 4294967296 ^ (k + 1) * (s / 4294967296) = M.val (l.take (k + 1)) * 1000000000 + g := by
  rw [M.take_succ_getD, M.take_succ_getD, getD_set _ _ _ _ hk, if_pos rfl, List.take_set_of_le (Nat.le_refl k), ← hx, Nat.pow_succ, Nat.mul_assoc]
  have e1 : 4294967296 ^ k * (s % 4294967296) + 4294967296 ^ k * (4294967296 * (s / 4294967296)) = 4294967296 ^ k * s := by rw [← Nat.mul_add]; congr 1; omega
  have e2 : 4294967296 ^ k * s = 4294967296 ^ k * c + 4294967296 ^ k * x * 1000000000 := by rw [hs, Nat.mul_add, Nat.mul_assoc]
  rw [Nat.add_mul]
  omega

theorem adig_top {l o : List Nat} {c g : Nat} (hl : o.length = l.length) (hv : M.val o + 4294967296 ^ o.length * c = M.val l * 1000000000 + g) (hb : M.Bd o) (ht : M.Tr l) (h0 : 0 < l.length) (hc : c = 0) : M.Tr o := by
  have h1 := M.val_ge ht (List.length_pos_iff.1 h0)
  right
  intro e
  have h2 : M.val o = M.val (o.take (o.length - 1)) := by
    have h3 := M.take_succ_getD o (o.length - 1)
    rw [e, show o.length - 1 + 1 = o.length by omega, List.take_length] at h3
    simpa using h3
  have h3 := M.val_lt (hb.take (o.length - 1))
  rw [List.length_take, Nat.min_eq_left (by omega)] at h3
  rw [hl] at h3 h2
  rw [hc] at hv
  omega

set_option maxRecDepth 100000 in
set_option maxHeartbeats 2000000 in
theorem adig_nil (B : Nat) (v : Value) (g : Nat) (w : World) (hown : w.ownsRow B 38 1 v 0 (us [])) (hg : g < 1000000000) (hB : B ≤ w.heap.size) :
    Calls Tryd.prog 88 #[v, .int .u32 (g : Int)] w fun e w' => Below B w w' ∧ ∃ v' l', e = .returned v' ∧ w'.ownsRow B 38 1 v' l'.length (us l') ∧ M.Bd l' ∧ M.val l' = g ∧ M.Tr l' ∧ l'.length ≤ 1 := by
  have HO : Hid (w.ownsRow B 38 1 v 0 (us [])) := hown
  obtain ⟨ao, cap, rfl⟩ : ∃ ao cap, v = .slice ao 0 cap := by
    obtain ⟨_, ⟨rfl, _⟩ | ⟨b, N, cur, rfl, _⟩⟩ := hown
    · exact ⟨_, _, rfl⟩
    · exact ⟨_, _, rfl⟩
  obtain ⟨i0, hi, hz0, hz1, hz2⟩ := info_parts Tryd.info38
  have hml : 1 ≤ maxLen := by unfold maxLen; omega
  have hsz : B ≤ (w.alloc (.cells #[.int .u32 (g : Int)] 38)).heap.size := by simp; omega
  clear hown
  go_enter Tryd.func88, Tryd.ntmps88
  go_wp2
  go_loop [5, 11] (fun vc vi => vc = .int .u64 (g : Int) ∧ vi = .int .i64 0) (fun _ _ => 0)
  case atStart => exact ⟨rfl, rfl⟩
  case round =>
    obtain ⟨rfl, rfl⟩ := hrel
    by_cases h0 : g = 0
    · subst h0
      go_wp2
      go_ret
      exact ⟨Below.refl _ _, .slice ao 0 cap, rfl, [], HO.out, M.Bd_nil, rfl, .inl rfl, by simp⟩
    · have h1 : 0 < g := by omega
      go_wp2_with (at_builtin; refine wpList_append_own _ rfl _ _ 22 rfl B 38 i0 (.int .u32 0) 1 4 Tryd.underlying22 hi hz0 hz1 hz2 rfl (by decide) _ _ _ rfl (HO.out.alloc _) ⟨w.heap.size, 0, none⟩ 1 1 [.int .u32 (g : Int)] rfl rfl (cell_new w _ _) (fun x hx => by simp at hx; subst hx; rfl) (by omega) (by omega) (by exact hsz) ?_)
      intro v' w1 hown' hgrow _
      have HN : Hid (Below B w w1 ∧ w1.ownsRow B 38 1 v' 1 (us [g])) := ⟨Below.grown ((Below.refl B w).alloc hB _) hgrow (by exact hsz) (fun j hj => (HO.out.lt j hj).1), hown'⟩
      clear hown' hgrow hsz
      go_wp2
      go_ret
      exact ⟨HN.out.1, v', [g], rfl, HN.out.2, fun x hx => by simp at hx; omega, by simp [M.val], .inr (by simpa using h0), by simp⟩

set_option maxRecDepth 100000 in
set_option maxHeartbeats 2000000 in
theorem adig_some (B : Nat) (v : Value) (l : List Nat) (g : Nat) (w : World) (hown : w.ownsRow B 38 1 v l.length (us l)) (hb : M.Bd l) (hg : g < 1000000000) (hl : l.length ≤ 1000) (h0 : 0 < l.length) (hB : B ≤ w.heap.size) (ht : M.Tr l) :
    Calls Tryd.prog 88 #[v, .int .u32 (g : Int)] w fun e w' => Below B w w' ∧ ∃ v' l', e = .returned v' ∧ w'.ownsRow B 38 1 v' l'.length (us l') ∧ M.Bd l' ∧ M.val l' = M.val l * 1000000000 + g ∧ M.Tr l' ∧ l'.length ≤ l.length + 1 := by
  have HT : Hid (M.Tr l) := ht
  obtain ⟨b, N, f, rfl, hBb, hnN, hNm, hrow, hf⟩ := row_of_owns hown h0
  have HBB : Hid (B ≤ b ∧ N ≤ maxLen) := ⟨hBb, hNm⟩
  have HR : Hid (w.rowIs b 38 N f ∧ ∀ j, j < l.length → f j = .int .u32 ((l.getD j 0 : Nat) : Int)) := ⟨hrow, hf⟩
  obtain ⟨n, hn⟩ : ∃ n, n = l.length := ⟨_, rfl⟩
  rw [← hn] at hl h0 hnN ⊢
  have HL : Hid (n = l.length) := hn
  obtain ⟨i0, hi, hz0, hz1, hz2⟩ := info_parts Tryd.info38
  clear hown ht hrow hf hn hBb hNm
  go_enter Tryd.func88, Tryd.ntmps88
  go_wp2
  go_loopw [5, 11] (fun vc vi wr => ∃ (k c : Nat) (o : List Nat), k ≤ n ∧ c ≤ 1000000000 ∧ vi = .int .i64 (k : Int) ∧ vc = .int .u64 (c : Int) ∧ Hid (o.length = l.length ∧ M.Bd o ∧ (∀ j, k ≤ j → o.getD j 0 = l.getD j 0) ∧ M.val (o.take k) + 4294967296 ^ k * c = M.val (l.take k) * 1000000000 + g) ∧
      Hid (∃ h, wr.rowIs b 38 N h ∧ ∀ j, j < n → h j = .int .u32 ((o.getD j 0 : Nat) : Int)) ∧ Hid (w.grownBy wr (some b))) (fun _ vi _ => n - (intOf vi).toNat)
  case atStart => exact ⟨0, g, l, Nat.zero_le _, by omega, rfl, rfl, ⟨rfl, hb, fun _ _ => rfl, by simp [M.val]⟩, ⟨f, HR.out.1, by rw [HL.out]; exact HR.out.2⟩, World.grownBy.refl _ _⟩
  case round =>
    obtain ⟨k, c, o, hk, hc, rfl, rfl, ho, hrow, hgr⟩ := hrel
    by_cases hlt : k < n
    · obtain ⟨h, hrw, hh⟩ := hrow.out
      have hck : wr.cell? ⟨b, k, none⟩ = some (.int .u32 ((l.getD k 0 : Nat) : Int)) := by rw [hrw.cell (by omega), hh k hlt, ho.out.2.2.1 k (Nat.le_refl _)]
      have hfz : wr.frozen? ⟨b, k, none⟩ = false := hrw.frozen _
      have hbd := hb.getD k
      obtain ⟨x, hx⟩ : ∃ x, x = l.getD k 0 := ⟨_, rfl⟩
      rw [← hx] at hck hbd
      have HX : Hid (x = l.getD k 0) := hx
      clear hx hrw hh
      go_wp2
      go_roundw
      case rel =>
        obtain ⟨h, hrw, hh⟩ := hrow.out
        have hol : o.length = n := by rw [ho.out.1, ← HL.out]
        refine ⟨k + 1, (c + x * 1000000000) / 4294967296, o.set k ((c + x * 1000000000) % 4294967296), by omega, by omega, by go_num, by simp, ⟨by rw [List.length_set]; exact ho.out.1, Bd_set ho.out.2.1 _ _ (Nat.mod_lt _ (by decide)), fun j hj => ?_, adig_step HX.out (by omega) rfl ho.out.2.2.2⟩, ⟨_, hrw.set _ _, fun j hj => ?_⟩, grown_set hgr.out _ _⟩
        · rw [getD_set _ _ _ _ (by omega), if_neg (by omega)]; exact ho.out.2.2.1 j (by omega)
        · rw [getD_set _ _ _ _ (by omega)]
          by_cases e : j = k
          · rw [if_pos e, if_pos e]; simp
          · rw [if_neg e, if_neg e]; exact hh j hj
      case measure => simp [intOf]; omega
    · obtain rfl : k = n := by omega
      have hol : o.length = k := by rw [ho.out.1, ← HL.out]
      have hval := ho.out.2.2.2
      rw [List.take_of_length_le (by omega), List.take_of_length_le (by rw [← HL.out]; exact Nat.le_refl _)] at hval
      obtain ⟨h, hrw, hh⟩ := hrow.out
      have hownr := owns_of_row (B := B) hrw hh hol hnN HBB.out.2 HBB.out.1
      have HO : Hid (wr.ownsRow B 38 1 (.slice (some ⟨b, 0, none⟩) k N) k (us o)) := hownr
      have HV : Hid (M.val o + 4294967296 ^ k * c = M.val l * 1000000000 + g ∧ o.length = k) := ⟨hval, hol⟩
      have HBL : Hid (Below B w wr) := Below.grown (Below.refl B w) hgr.out hB (fun j hj => by cases hj; exact HBB.out.1)
      clear hrw hh hownr hval hol
      by_cases hc0 : c = 0
      · subst hc0
        go_wp2
        go_ret
        refine ⟨HBL.out, _, o, rfl, by rw [HV.out.2]; exact HO.out, ho.out.2.1, by have := HV.out.1; simpa using this, ?_, by rw [HV.out.2]; omega⟩
        exact adig_top ho.out.1 (by rw [HV.out.2]; exact HV.out.1) ho.out.2.1 HT.out (by rw [← HL.out]; exact h0) rfl
      · have hc1 : 0 < c := by omega
        have hml : k + 1 ≤ maxLen := by unfold maxLen; omega
        have hsz : B ≤ (wr.alloc (.cells #[.int .u32 (c : Int)] 38)).heap.size := by have := HBL.out.size; simp; omega
        go_wp2_with (at_builtin; refine wpList_append_own _ rfl _ _ 22 rfl B 38 i0 (.int .u32 0) 1 4 Tryd.underlying22 hi hz0 hz1 hz2 rfl (by decide) _ _ _ rfl (HO.out.alloc _) ⟨wr.heap.size, 0, none⟩ 1 1 [.int .u32 (c : Int)] rfl rfl (cell_new wr _ _) (fun x hx => by simp at hx; subst hx; rfl) (by omega) (by omega) (by exact hsz) ?_)
        intro v' w1 hown' hgrow _
        have HN : Hid (Below B w w1 ∧ w1.ownsRow B 38 1 v' (k + 1) (us (o ++ [c]))) := ⟨Below.grown (HBL.out.alloc (Nat.le_trans hB HBL.out.size) _) hgrow (by exact hsz) (fun j hj => (HO.out.lt j hj).1), by rw [us_snoc]; exact hown'⟩
        clear hown' hgrow hsz
        go_wp2
        go_ret
        refine ⟨HN.out.1, v', o ++ [c], rfl, by rw [List.length_append, HV.out.2]; exact HN.out.2, ho.out.2.1.snoc (by omega), by rw [M.val_snoc, HV.out.2]; exact HV.out.1, ?_, by rw [List.length_append, HV.out.2]; simp⟩
        right
        rw [List.length_append, List.length_singleton, Nat.add_sub_cancel, M.getD_snoc, if_pos rfl]
        exact hc0

theorem adig_any (B : Nat) (v : Value) (l : List Nat) (g : Nat) (w : World) (hown : w.ownsRow B 38 1 v l.length (us l)) (hb : M.Bd l) (hg : g < 1000000000) (hl : l.length ≤ 1000) (hB : B ≤ w.heap.size) (ht : M.Tr l) :
    Calls Tryd.prog 88 #[v, .int .u32 (g : Int)] w fun e w' => Below B w w' ∧ ∃ v' l', e = .returned v' ∧ w'.ownsRow B 38 1 v' l'.length (us l') ∧ M.Bd l' ∧ M.val l' = M.val l * 1000000000 + g ∧ M.Tr l' ∧ l'.length ≤ l.length + 1 := by
  by_cases h0 : l.length = 0
  · have e := List.length_eq_zero_iff.1 h0
    subst e
    refine (adig_nil B v g w hown hg hB).mono ?_
    rintro e w' ⟨h1, v', l', rfl, h2, h3, h4, h5, h6⟩
    exact ⟨h1, v', l', rfl, h2, h3, by rw [h4]; simp [M.val], h5, by simpa using h6⟩
  · exact adig_some B v l g w hown hb hg hl (by omega) hB ht

theorem take_get (s : ByteArray) (k : Nat) (hk : k < s.size) : s.data.toList.take (k + 1) = s.data.toList.take k ++ [s[k]] := by
  rw [List.take_succ_eq_append_getElem (by rw [list_len]; exact hk)]; rfl

theorem pow10_le {p : Nat} (h : p ≤ 9) : 10 ^ p ≤ 1000000000 := by
  have := Nat.pow_le_pow_right (n := 10) (by decide) h
  simpa using this

theorem mag_len {l : List Nat} {n : Nat} (ht : M.Tr l) (h : M.val l < 10 ^ n) (hn : n ≤ 1024) : l.length ≤ 1000 := by
  obtain ⟨q, hq⟩ : ∃ q, q = 114 := ⟨_, rfl⟩
  have hn' : n ≤ 9 * q := by omega
  by_cases h0 : l = []
  · subst h0; simp
  · have h1 := M.val_ge ht h0
    have h2 : 10 ^ n ≤ 4294967296 ^ q := by
      refine Nat.le_trans (Nat.pow_le_pow_right (by decide) hn') ?_
      rw [Nat.pow_mul]
      exact Nat.pow_le_pow_left (show 10 ^ 9 ≤ 4294967296 by decide) q
    have h3 : 4294967296 ^ (l.length - 1) < 4294967296 ^ q := by omega
    have := (Nat.pow_lt_pow_iff_right (a := 4294967296) (by decide)).1 h3
    omega

theorem dv_lt {l : List UInt8} (h : Dig l) : dv l < 10 ^ l.length := by
  revert h
  revert l
  suffices ∀ l : List UInt8, Dig l → dv l < 10 ^ l.length from fun {l} h => this l h
  refine snocInd (p := fun l => Dig l → dv l < 10 ^ l.length) (fun _ => by decide) ?_
  intro l c ih h
  have h1 := ih (fun x hx => h x (by simp [hx]))
  have h2 := h c (by simp)
  rw [dv_snoc, List.length_append, List.length_singleton, Nat.pow_succ]
  omega

set_option maxRecDepth 100000 in
set_option maxHeartbeats 2000000 in
theorem mag_any (s : ByteArray) (w : World) (hs : s.size ≤ 1024) (hd : Dig s.data.toList) :
    Calls Tryd.prog 63 #[.string s] w fun e w' => Kept w w' ∧ ∃ v' l', e = .returned v' ∧ New w.heap.size w' v' l' ∧ M.Tr l' ∧ M.val l' = dv s.data.toList ∧ l'.length ≤ 1000000 := by
  have HD : Hid (Dig s.data.toList) := hd
  obtain ⟨n, hn⟩ : ∃ n, n = s.size := ⟨_, rfl⟩
  clear hd
  go_enter Tryd.func63, Tryd.ntmps63
  go_wp2
  go_loopw [3, 4, 8] (fun vm vg vi wr => ∃ (k g p : Nat) (l : List Nat), k ≤ s.size ∧ vi = .int .i64 (k : Int) ∧ vg = .int .u32 (g : Int) ∧ p ≤ 8 ∧ p + (s.size - k) % 9 ≤ 9 ∧ ((s.size - k) % 9 = 0 → p = 0) ∧ g < 1000000000 ∧ Hid (g < 10 ^ p) ∧
      Hid (wr.ownsRow w.heap.size 38 1 vm l.length (us l) ∧ M.Bd l ∧ M.Tr l ∧ M.val l * 10 ^ p + g = dv (s.data.toList.take k) ∧ (M.val l = 0 ∨ p + (s.size - k) % 9 = 9 ∨ (s.size - k) % 9 = 0)) ∧ Hid (Kept w wr)) (fun _ _ vi _ => s.size - (intOf vi).toNat)
  case atStart => exact ⟨0, 0, 0, [], Nat.zero_le _, rfl, rfl, by omega, by omega, fun _ => rfl, by omega, (by show (0 : Nat) < 10 ^ 0; decide), ⟨World.ownsRow_nil _ _ _ _, M.Bd_nil, .inl rfl, rfl, .inl rfl⟩, Kept.refl w⟩
  case round =>
    obtain ⟨k, g, p, l, hk, rfl, rfl, hp8, hp9, hp0, hg9, hgp, hown, hkept⟩ := hrel
    by_cases hlt : k < s.size
    · obtain ⟨hd1, hd2⟩ := dig_get HD.out k hlt
      have hg8 : g < 100000000 := Nat.lt_of_lt_of_le hgp.out (by have := Nat.pow_le_pow_right (n := 10) (by decide) hp8; simpa using this)
      have HDV : Hid (dv (s.data.toList.take (k + 1)) = dv (s.data.toList.take k) * 10 + (s[k].toNat - 48)) := by
        show dv _ = _
        rw [take_get s k hlt, dv_snoc]
      have hgn : ((g * 10 + (s[k].toNat - 48) : Nat) : Int) = (g : Int) * 10 + ((s[k].toNat : Int) - 48) := by omega
      have HGN : Hid (((g * 10 + (s[k].toNat - 48) : Nat) : Int) = (g : Int) * 10 + ((s[k].toNat : Int) - 48)) := hgn
      have hgN9 : g * 10 + (s[k].toNat - 48) < 1000000000 := by omega
      have HGP : Hid (g * 10 + (s[k].toNat - 48) < 10 ^ (p + 1)) := by
        show _ < _
        have := hgp.out
        rw [Nat.pow_succ]; omega
      clear hgn
      by_cases hf : (s.size - (k + 1)) % 9 = 0
      · have hfb : (((s.size : Int) - (k : Int) - 1) % 9 == 0) = true := beq_iff_eq.2 (by omega)
        have hll : l.length ≤ 1000 := by
          have h1 := dv_lt (l := s.data.toList.take k) (fun c hc => HD.out c (List.mem_of_mem_take hc))
          rw [List.length_take, list_len, Nat.min_eq_left hk, ← hown.out.2.2.2.1] at h1
          refine mag_len hown.out.2.2.1 (Nat.lt_of_le_of_lt ?_ h1) (show k ≤ 1024 by omega)
          have := Nat.mul_le_mul_left (M.val l) (show 1 ≤ 10 ^ p from Nat.pow_pos (by decide))
          omega
        have hcall := adig_any w.heap.size u3 l (g * 10 + (s[k].toNat - 48)) wr hown.out.1 hown.out.2.1 hgN9 hll hkept.out.size hown.out.2.2.1
        rw [HGN.out] at hcall
        have HC : Hid (Calls Tryd.prog 88 #[u3, .int .u32 ((g : Int) * 10 + ((s[k].toNat : Int) - 48))] wr fun e w' => Below w.heap.size wr w' ∧ ∃ v' l', e = .returned v' ∧ w'.ownsRow w.heap.size 38 1 v' l'.length (us l') ∧ M.Bd l' ∧ M.val l' = M.val l * 1000000000 + (g * 10 + (s[k].toNat - 48)) ∧ M.Tr l' ∧ l'.length ≤ l.length + 1) := hcall
        clear hcall hll
        go_wp2_with fail
        refine HC.out.mono ?_
        rintro e w1 ⟨hb1, v', l', rfl, ho1, hbd1, hv1, ht1, _⟩
        have H1 : Hid (w1.ownsRow w.heap.size 38 1 v' l'.length (us l') ∧ M.Bd l' ∧ M.Tr l' ∧ M.val l' * 10 ^ 0 + 0 = dv (s.data.toList.take (k + 1)) ∧ Kept w w1) := by
          refine ⟨ho1, hbd1, ht1, ?_, Below.trans hkept.out hb1⟩
          rw [HDV.out, ← hown.out.2.2.2.1, hv1]
          rcases hown.out.2.2.2.2 with h | h | h
          · rw [h]; omega
          · have : p = 8 := by omega
            subst this
            omega
          · omega
        clear hb1 ho1 hbd1 hv1 ht1 HC
        go_wp2
        go_roundw
        case rel => exact ⟨k + 1, 0, 0, l', by omega, by go_num, rfl, by omega, by omega, (fun _ => rfl), by omega, (by show (0 : Nat) < 10 ^ 0; decide), ⟨H1.out.1, H1.out.2.1, H1.out.2.2.1, H1.out.2.2.2.1, .inr (.inr hf)⟩, H1.out.2.2.2.2⟩
        case measure => simp [intOf]; omega
      · have hfb : (((s.size : Int) - (k : Int) - 1) % 9 == 0) = false := beq_eq_false_iff_ne.2 (by omega)
        go_wp2
        go_roundw
        case rel =>
          refine ⟨k + 1, g * 10 + (s[k].toNat - 48), p + 1, l, by omega, by go_num, by rw [HGN.out], by omega, by omega, (fun h => absurd h hf), hgN9, HGP.out, ⟨hown.out.1, hown.out.2.1, hown.out.2.2.1, ?_, ?_⟩, hkept.out⟩
          · rw [HDV.out, ← hown.out.2.2.2.1, Nat.pow_succ, ← Nat.mul_assoc]; omega
          · rcases hown.out.2.2.2.2 with h | h | h
            · exact .inl h
            · exact .inr (.inl (by omega))
            · have := hp0 h
              exact .inr (.inl (by omega))
        case measure => simp [intOf]; omega
    · obtain rfl : k = s.size := by omega
      have hpz : p = 0 := hp0 (by simp)
      subst hpz
      have hg0 : g = 0 := by have := hgp.out; simp at this; exact this
      have hv := hown.out.2.2.2.1
      rw [List.take_of_length_le (by rw [list_len]; exact Nat.le_refl _), hg0] at hv
      have HV : Hid (M.val l = dv s.data.toList) := by
        show M.val l = dv s.data.toList
        simpa using hv
      clear hv hp0
      go_wp2
      go_ret
      refine ⟨hkept.out, _, l, rfl, New.of_owns hown.out.1 hown.out.2.1, hown.out.2.2.1, HV.out, ?_⟩
      have h1 := dv_lt HD.out
      rw [← HV.out, list_len] at h1
      have := mag_len hown.out.2.2.1 h1 hs
      omega

end Go.Proofs.YtiadnlpbbibkgaaDoor
