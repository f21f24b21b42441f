/- bits.LeadingZeros32, in plain numbers; windows of a row. -/
import Derived.Test.YthijnnififodjaaDoorKshr
import Derived.Test.YthijnnififodjaaDoorShelf
namespace Go.Proofs.YthijnnififodjaaDoor
open Go.RowKit

theorem bitLen_bounds : ∀ (k x : Nat), k = x → x ≠ 0 → x < 2 ^ 64 → 1 ≤ Lib.bitLen x ∧ 2 ^ (Lib.bitLen x - 1) ≤ x ∧ x < 2 ^ Lib.bitLen x := by
  intro k
  induction k using Nat.strongRecOn with
  | ind k ih =>
    intro x hk h0 h
    rw [Lib.bitLen_half x h0 h]
    by_cases h1 : x / 2 = 0
    · have hx : x = 1 := by omega
      subst hx
      decide
    · obtain ⟨a, b, c⟩ := ih (x / 2) (by omega) (x / 2) rfl h1 (by omega)
      refine ⟨by omega, ?_, ?_⟩
      · rw [show 1 + Lib.bitLen (x / 2) - 1 = (Lib.bitLen (x / 2) - 1) + 1 by omega, Nat.pow_succ]; omega
      · rw [show 1 + Lib.bitLen (x / 2) = Lib.bitLen (x / 2) + 1 by omega, Nat.pow_succ]; omega

theorem lz_any (x : Nat) (w : World) (h0 : 0 < x) (h1 : x < 4294967296) :
    Calls Tryd.prog 66 #[.int .u32 (x : Int)] w fun e w' => w' = w ∧ ∃ s : Nat, e = .returned (.int .i64 (s : Int)) ∧ s ≤ 31 ∧ 2147483648 ≤ x * 2 ^ s ∧ x * 2 ^ s < 4294967296 := by
  refine (Tryd.bits_LeadingZeros32 (x : Int) w (by omega) (by omega)).mono ?_
  rintro e w' ⟨rfl, rfl⟩
  obtain ⟨a, b, c⟩ := bitLen_bounds x x rfl (by omega) (by omega)
  have d := Lib.bitLen_le x 32 (by omega) (by omega)
  rw [Int.toNat_natCast]
  generalize Lib.bitLen x = n at *
  refine ⟨rfl, 32 - n, by rw [show (32 : Int) - (n : Int) = ((32 - n : Nat) : Int) by omega], by omega, ?_, ?_⟩
  · have h2 : 2 ^ (n - 1) * 2 ^ (32 - n) ≤ x * 2 ^ (32 - n) := Nat.mul_le_mul_right _ b
    rw [← Nat.pow_add, show n - 1 + (32 - n) = 31 by omega] at h2
    omega
  · have h2 : x * 2 ^ (32 - n) < 2 ^ n * 2 ^ (32 - n) := Nat.mul_lt_mul_of_pos_right c (Nat.two_pow_pos _)
    rw [← Nat.pow_add, show n + (32 - n) = 32 by omega] at h2
    omega

/-- A window of a window. -/
theorem Win.sub {w : World} {b N : Nat} {f : Nat → Value} {R : List Nat} (h : Win w b N 0 f R) (i m : Nat) (hi : i + m ≤ R.length) : Win w b N i f ((R.drop i).take m) := by
  have hl : ((R.drop i).take m).length = m := by rw [List.length_take, List.length_drop]; omega
  refine ⟨h.row, fun j hj => ?_, by have := h.len; omega, (h.bd.drop i).take m⟩
  rw [hl] at hj
  have h9 := h.at_ (i + j) (by omega)
  rw [Nat.zero_add] at h9
  rw [h9, List.getD_eq_getElem?_getD, List.getD_eq_getElem?_getD, List.getElem?_take_of_lt hj, List.getElem?_drop]

/-- The window laid back. -/
theorem Win.join {w w' : World} {b N i : Nat} {f f' : Nat → Value} {R W : List Nat} (h : Win w b N 0 f R) (h' : Win w' b N i f' W) (hf : ∀ j, j < i ∨ i + W.length ≤ j → f' j = f j) (hi : i + W.length ≤ R.length) : Win w' b N 0 f' (R.take i ++ W ++ R.drop (i + W.length)) := by
  have hti : (R.take i).length = i := by rw [List.length_take]; omega
  have hlen : (R.take i ++ W ++ R.drop (i + W.length)).length = R.length := by simp only [List.length_append, hti, List.length_drop]; omega
  refine ⟨h'.row, fun j hj => ?_, by have := h.len; omega, fun x hx => ?_⟩
  · rw [hlen] at hj
    rw [Nat.zero_add, List.append_assoc]
    have hR := h.at_ j hj
    rw [Nat.zero_add] at hR
    simp only [List.getD_eq_getElem?_getD] at hR ⊢
    by_cases h1 : j < i
    · rw [hf j (.inl h1), hR, List.getElem?_append_left (by omega), List.getElem?_take_of_lt h1]
    · by_cases h2 : j < i + W.length
      · have h9 := h'.at_ (j - i) (by omega)
        rw [show i + (j - i) = j by omega] at h9
        rw [h9, List.getD_eq_getElem?_getD, List.getElem?_append_right (by omega), hti, List.getElem?_append_left (by omega)]
      · rw [hf j (.inr (by omega)), hR, List.getElem?_append_right (by omega), hti, List.getElem?_append_right (by omega), List.getElem?_drop, show i + W.length + (j - i - W.length) = j by omega]
  · rcases List.mem_append.1 hx with h1 | h1
    · rcases List.mem_append.1 h1 with h2 | h2
      · exact h.bd x (List.mem_of_mem_take h2)
      · exact h'.bd x h2
    · exact h.bd x (List.mem_of_mem_drop h1)

/-- A row of new memory as a window. -/
theorem New.win {B b n c : Nat} {w : World} {l : List Nat} (h : New B w (.slice (some ⟨b, 0, none⟩) n c) l) : n = l.length ∧ B ≤ b ∧ l.length ≤ c ∧ ∃ f, Win w b c 0 f l := by
  obtain ⟨hb, ⟨hv, rfl⟩ | ⟨b', N', f, hv, hB, hN, hr, hf⟩⟩ := h
  · simp at hv
  · simp only [Value.slice.injEq, Option.some.injEq, Addr.mk.injEq] at hv
    obtain ⟨⟨rfl, _, _⟩, rfl, rfl⟩ := hv
    exact ⟨rfl, hB, hN, f, hr, fun j hj => by rw [Nat.zero_add]; exact hf j hj, by omega, hb⟩

theorem Win.new {B w b c} {f : Nat → Value} {l : List Nat} (h : Win w b c 0 f l) (hB : B ≤ b) : New B w (.slice (some ⟨b, 0, none⟩) l.length c) l :=
  ⟨h.bd, .inr ⟨b, c, f, rfl, hB, by have := h.len; omega, h.row, fun j hj => by have := h.at_ j hj; rwa [Nat.zero_add] at this⟩⟩

theorem Win.grown {w w' : World} {b b' N i : Nat} {f : Nat → Value} {q : List Nat} (h : Win w b N i f q) (hg : w.grownBy w' (some b')) (hne : b ≠ b') : Win w' b N i f q :=
  ⟨h.row.of_block (hg.block b h.row.lt (fun e => hne (Option.some.inj e))), h.at_, h.len, h.bd⟩

theorem lt_pow_top {d : List Nat} {n : Nat} (hb : M.Bd d) (hl : d.length = n + 1) (h : 2147483648 * 4294967296 ^ n ≤ M.val d) : 2147483648 ≤ d.getD n 0 := by
  rw [M.take_drop_val d n (by omega), M.drop_getD d n (by omega), List.drop_of_length_le (by omega)] at h
  have h1 := M.val_lt (hb.take n)
  rw [List.length_take, Nat.min_eq_left (by omega)] at h1
  simp only [M.val, Nat.mul_zero, Nat.add_zero] at h
  apply Classical.byContradiction
  intro hn
  have h2 : 4294967296 ^ n * (d.getD n 0 + 1) ≤ 4294967296 ^ n * 2147483648 := Nat.mul_le_mul_left _ (by omega)
  rw [Nat.mul_add] at h2
  omega

/-- What the shift makes of a divisor: as many limbs, the top bit set. -/
theorem shifted_divisor {b p : List Nat} {n s x S : Nat} (hS : S = 2 ^ s) (hs : s ≤ 31) (hb : M.Bd b) (hbl : b.length = n + 1) (hx : x = b.getD n 0) (hpb : M.Bd p) (hpl : p.length = n + 2) (hv : M.val p = M.val b * S) (h1 : 2147483648 ≤ x * S) (h2 : x * S < 4294967296) :
    M.val (p.take (n + 1)) = M.val b * S ∧ (p.take (n + 1)).length = n + 1 ∧ 2147483648 ≤ (p.take (n + 1)).getD n 0 := by
  have e := M.take_drop_val b n (by omega)
  rw [M.drop_getD b n (by omega), List.drop_of_length_le (by omega), ← hx] at e
  simp only [M.val, Nat.mul_zero, Nat.add_zero] at e
  have hlow := M.val_lt (hb.take n)
  rw [List.length_take, Nat.min_eq_left (by omega)] at hlow
  obtain ⟨T, hT⟩ : ∃ T, 4294967296 = T * S := ⟨2 ^ (32 - s), by rw [hS, ← Nat.pow_add, show 32 - s + s = 32 by omega]⟩
  have hS0 : 0 < S := by rw [hS]; exact Nat.two_pow_pos s
  have hxT : (x + 1) * S ≤ 4294967296 := by
    rw [hT] at h2 ⊢
    exact Nat.mul_le_mul_right _ (Nat.lt_of_mul_lt_mul_right h2)
  have hub : M.val b * S < 4294967296 ^ (n + 1) := by
    have h3 : M.val b < 4294967296 ^ n * (x + 1) := by rw [Nat.mul_add]; omega
    have h4 : M.val b * S < 4294967296 ^ n * (x + 1) * S := Nat.mul_lt_mul_of_pos_right h3 hS0
    have h5 : 4294967296 ^ n * ((x + 1) * S) ≤ 4294967296 ^ n * 4294967296 := Nat.mul_le_mul_left _ hxT
    rw [Nat.mul_assoc] at h4
    rw [Nat.pow_succ]
    omega
  have hlo : 2147483648 * 4294967296 ^ n ≤ M.val b * S := by
    have h3 : 4294967296 ^ n * x * S ≤ M.val b * S := Nat.mul_le_mul_right _ (by omega)
    have h4 : 4294967296 ^ n * 2147483648 ≤ 4294967296 ^ n * (x * S) := Nat.mul_le_mul_left _ h1
    rw [Nat.mul_assoc] at h3
    omega
  have ep := M.take_drop_val p (n + 1) (by omega)
  have hz : M.val (p.drop (n + 1)) = 0 := by
    apply Classical.byContradiction
    intro hn
    have h3 : 4294967296 ^ (n + 1) * 1 ≤ 4294967296 ^ (n + 1) * M.val (p.drop (n + 1)) := Nat.mul_le_mul_left _ (by omega)
    omega
  rw [hz, Nat.mul_zero, Nat.add_zero] at ep
  have hl : (p.take (n + 1)).length = n + 1 := by rw [List.length_take]; omega
  have hval : M.val (p.take (n + 1)) = M.val b * S := by rw [← ep, hv]
  exact ⟨hval, hl, lt_pow_top (hpb.take _) hl (by rw [hval]; exact hlo)⟩

/-- What the shift makes of the number: its top limb is less than the divisor's. -/
theorem shifted_number {a r d : List Nat} {m n s S : Nat} (hS : S = 2 ^ s) (hs : s ≤ 31) (ha : M.Bd a) (hal : a.length = m) (hrb : M.Bd r) (hrl : r.length = m + 1) (hv : M.val r = M.val a * S) (hdl : d.length = n + 1) (hnm : n + 1 ≤ m) (htop : 2147483648 ≤ d.getD n 0) : M.val (r.drop (m - n)) < M.val d := by
  have hS0 : 0 < S := by rw [hS]; exact Nat.two_pow_pos s
  have hS1 : S ≤ 2147483648 := by rw [hS]; exact Nat.le_trans (Nat.pow_le_pow_right (by decide) hs) (by decide)
  have h1 := M.val_lt ha
  rw [hal] at h1
  have h2 : M.val a * S < 4294967296 ^ m * S := Nat.mul_lt_mul_of_pos_right h1 hS0
  have e := M.take_drop_val r m (by omega)
  rw [M.drop_getD r m (by omega), List.drop_of_length_le (by omega)] at e
  simp only [M.val, Nat.mul_zero, Nat.add_zero] at e
  have ht : r.getD m 0 < 2147483648 := by
    apply Classical.byContradiction
    intro hn
    have h3 : 4294967296 ^ m * S ≤ 4294967296 ^ m * r.getD m 0 := Nat.mul_le_mul_left _ (by omega)
    omega
  refine lt_of_top (n := n) (hrb.drop _) (by rw [List.length_drop]; omega) hdl ?_
  have e2 : (r.drop (m - n)).getD n 0 = r.getD m 0 := by
    rw [List.getD_eq_getElem?_getD, List.getElem?_drop, show m - n + n = m by omega, ← List.getD_eq_getElem?_getD]
  omega

end Go.Proofs.YthijnnififodjaaDoor
