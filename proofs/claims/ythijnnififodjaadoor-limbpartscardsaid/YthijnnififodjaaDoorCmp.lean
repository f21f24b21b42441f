/- How two trimmed magnitudes are held against one another. -/
import Derived.Test.YthijnnififodjaaDoorBase
namespace Go.Proofs.YthijnnififodjaaDoor
open Go.RowKit

/-- -1, 0 or 1. -/
def sgn (m n : Nat) : Int := if m < n then -1 else if m = n then 0 else 1

theorem val_lt_of_top {a b : List Nat} {k : Nat} (ha : M.Bd a) (hk : 0 < k) (hka : k ≤ a.length) (hl : a.length = b.length) (hd : a.drop k = b.drop k) (h : a.getD (k - 1) 0 < b.getD (k - 1) 0) : M.val a < M.val b := by
  rw [M.take_drop_val a (k - 1) (by omega), M.take_drop_val b (k - 1) (by omega), M.drop_getD a (k - 1) (by omega), M.drop_getD b (k - 1) (by omega)]
  rw [show k - 1 + 1 = k by omega, hd]
  have h1 := M.val_lt (ha.take (k - 1))
  rw [List.length_take, Nat.min_eq_left (by omega)] at h1
  have h2 : 4294967296 ^ (k - 1) * (a.getD (k - 1) 0 + 1 + 4294967296 * M.val (b.drop k)) ≤ 4294967296 ^ (k - 1) * (b.getD (k - 1) 0 + 4294967296 * M.val (b.drop k)) := Nat.mul_le_mul_left _ (by omega)
  have h3 : 4294967296 ^ (k - 1) * (a.getD (k - 1) 0 + 1 + 4294967296 * M.val (b.drop k)) = 4294967296 ^ (k - 1) * (a.getD (k - 1) 0 + 4294967296 * M.val (b.drop k)) + 4294967296 ^ (k - 1) := by
    rw [Nat.mul_add, Nat.mul_add, Nat.mul_add]; omega
  omega

theorem val_lt_of_len {a b : List Nat} (ha : M.Bd a) (hb : M.Tr b) (h : a.length < b.length) : M.val a < M.val b := by
  rcases Nat.lt_or_ge (M.val a) (M.val b) with h1 | h1
  · exact h1
  · have := M.len_le_of_val_le hb ha h1; omega

theorem drop_pred {a b : List Nat} {k : Nat} (hk : 0 < k) (hka : k ≤ a.length) (hl : a.length = b.length) (hd : a.drop k = b.drop k) (h : a.getD (k - 1) 0 = b.getD (k - 1) 0) : a.drop (k - 1) = b.drop (k - 1) := by
  rw [List.drop_eq_getElem_cons (l := a) (i := k - 1) (by omega), List.drop_eq_getElem_cons (l := b) (i := k - 1) (by omega), show k - 1 + 1 = k by omega, hd]
  rw [List.getD_eq_getElem?_getD, List.getD_eq_getElem?_getD, List.getElem?_eq_getElem (by omega), List.getElem?_eq_getElem (by omega)] at h
  simp at h
  rw [h]

set_option maxHeartbeats 1000000 in
theorem compare_any (va vb : Value) (a b : List Nat) (w : World) (ha : Sl w va a) (hb : Sl w vb b) (_hla : a.length ≤ 1000) (hlb : b.length ≤ 1000) (ta : M.Tr a) (tb : M.Tr b) :
    Calls Tryd.prog 39 #[va, vb] w fun e w' => e = .returned (.int .i64 (sgn (M.val a) (M.val b))) ∧ ∃ n, w' = w.drewN n := by
  obtain ⟨bda, aoa, capa, rfl, hxa⟩ := ha
  obtain ⟨bdb, aob, capb, rfl, hxb⟩ := hb
  rcases Nat.lt_trichotomy a.length b.length with hl | hl | hl
  · have e : sgn (M.val a) (M.val b) = -1 := by unfold sgn; rw [if_pos (val_lt_of_len bda tb hl)]
    rw [e]
    clear hxa hxb e
    go_enter Tryd.func39, Tryd.ntmps39
    go_wp2
    go_ret
    exact ⟨rfl, 0, rfl⟩
  · obtain ⟨n, hn⟩ : ∃ n, n = a.length := ⟨_, rfl⟩
    have hn2 : n = b.length := by omega
    rw [← hn] at hxa _hla ⊢
    rw [← hn2] at hxb hlb ⊢
    have HA : Hid (_) := hxa
    have HB : Hid (_) := hxb
    have HN : Hid (n = a.length ∧ n = b.length) := ⟨hn, hn2⟩
    obtain ⟨r, hr⟩ : ∃ r, r = sgn (M.val a) (M.val b) := ⟨_, rfl⟩
    rw [← hr]
    have HR : Hid (r = sgn (M.val a) (M.val b)) := hr
    clear hxa hxb hn hn2 hl ta tb hr
    go_enter Tryd.func39, Tryd.ntmps39
    go_wp2
    go_loopw [5] (fun vi wr => ∃ k m : Nat, k ≤ n ∧ vi = .int .i64 ((k : Int) - 1) ∧ Hid (a.drop k = b.drop k) ∧ wr = w.drewN m) (fun vi _ => (intOf vi + 1).toNat)
    case atStart => exact ⟨n, 0, Nat.le_refl _, rfl, by show a.drop n = b.drop n; rw [List.drop_of_length_le (by rw [HN.out.1]; exact Nat.le_refl _), List.drop_of_length_le (by rw [HN.out.2]; exact Nat.le_refl _)], rfl⟩
    case round =>
      obtain ⟨k, m, hk, rfl, hd, rfl⟩ := hrel
      by_cases h0 : k = 0
      · subst h0
        go_wp2
        go_ret
        refine ⟨?_, m, rfl⟩
        have e : a = b := by simpa using hd.out
        rw [HR.out, e]; simp [sgn]
      · obtain ⟨_, ba, oa, rfl, _, hca⟩ := HA.out (by omega)
        obtain ⟨_, bb, ob, rfl, _, hcb⟩ := HB.out (by omega)
        have hca := hca (k - 1) (by omega)
        have hcb := hcb (k - 1) (by omega)
        have hba := bda.getD (k - 1)
        have hbb := bdb.getD (k - 1)
        obtain ⟨x, hx⟩ : ∃ x, x = a.getD (k - 1) 0 := ⟨_, rfl⟩
        obtain ⟨y, hy⟩ : ∃ y, y = b.getD (k - 1) 0 := ⟨_, rfl⟩
        rw [← hx] at hca hba
        rw [← hy] at hcb hbb
        have HX : Hid (x = a.getD (k - 1) 0) := hx
        have HY : Hid (y = b.getD (k - 1) 0) := hy
        clear hx hy HA HB
        have h1 : 1 ≤ k := by omega
        rcases Nat.lt_trichotomy x y with hxy | hxy | hxy
        · go_wp2
          go_quiet (fail)
          go_wp2
          go_ret
          refine ⟨ret_i64 ?_, _, by rw [World.drewN_drewN]⟩
          rw [HR.out, sgn, if_pos (val_lt_of_top bda h1 (by rw [← HN.out.1]; exact hk) (by rw [← HN.out.1, ← HN.out.2]) hd.out (by rw [← HX.out, ← HY.out]; exact hxy))]
        · subst hxy
          go_wp2
          go_quiet (fail)
          go_wp2
          go_quiet (fail)
          go_wp2
          go_roundw
          case rel => exact ⟨k - 1, _, by omega, by go_num, drop_pred h1 (by rw [← HN.out.1]; exact hk) (by rw [← HN.out.1, ← HN.out.2]) hd.out (by rw [← HX.out, ← HY.out]), rfl⟩
          case measure => simp [intOf]; omega
        · go_wp2
          go_quiet (fail)
          go_wp2
          go_quiet (fail)
          go_wp2
          go_ret
          refine ⟨ret_i64 ?_, _, by rw [World.drewN_drewN, World.drewN_drewN]⟩
          have h2 := val_lt_of_top bdb h1 (by rw [← HN.out.2]; exact hk) (by rw [← HN.out.1, ← HN.out.2]) hd.out.symm (by rw [← HX.out, ← HY.out]; exact hxy)
          rw [HR.out, sgn, if_neg (by omega), if_neg (by omega)]
  · have e : sgn (M.val a) (M.val b) = 1 := by have := val_lt_of_len bdb ta hl; unfold sgn; rw [if_neg (by omega), if_neg (by omega)]
    rw [e]
    clear hxa hxb e
    go_enter Tryd.func39, Tryd.ntmps39
    go_wp2
    go_ret
    exact ⟨rfl, 0, rfl⟩

end Go.Proofs.YthijnnififodjaaDoor
