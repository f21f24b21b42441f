/- Plain mathematics of lists of limbs: the value of a list in base 2^32, its bounds, and that a trimmed list is told by its value. Nothing of Go stands in it. -/
namespace Go.Proofs.YthijnnififodjaaDoor
namespace M

/-- The number that limbs tell, the lowest first. -/
def val : List Nat → Nat
  | [] => 0
  | x :: l => x + 4294967296 * val l

/-- Each limb is below 2^32. -/
def Bd (l : List Nat) : Prop := ∀ x ∈ l, x < 4294967296

/-- No nought at the top. -/
def Tr (l : List Nat) : Prop := l.length = 0 ∨ l.getD (l.length - 1) 0 ≠ 0

theorem val_nil : val [] = 0 := rfl

theorem val_append (a b : List Nat) : val (a ++ b) = val a + 4294967296 ^ a.length * val b := by
  induction a with
  | nil => simp [val]
  | cons x l ih => simp only [List.cons_append, val, ih, List.length_cons, Nat.pow_succ]; rw [Nat.mul_add, ← Nat.mul_assoc, Nat.mul_comm 4294967296 (4294967296 ^ l.length)]; omega

theorem Bd_nil : Bd [] := fun _ h => by cases h

theorem Bd.snoc {l : List Nat} (h : Bd l) {x : Nat} (hx : x < 4294967296) : Bd (l ++ [x]) := by
  intro y hy
  rcases List.mem_append.1 hy with h1 | h1
  · exact h y h1
  · simp at h1; omega

theorem Bd.take {l : List Nat} (h : Bd l) (k : Nat) : Bd (l.take k) := fun x hx => h x (List.mem_of_mem_take hx)
theorem Bd.drop {l : List Nat} (h : Bd l) (k : Nat) : Bd (l.drop k) := fun x hx => h x (List.mem_of_mem_drop hx)

theorem Bd.getD {l : List Nat} (h : Bd l) (k : Nat) : l.getD k 0 < 4294967296 := by
  rw [List.getD_eq_getElem?_getD]
  by_cases hk : k < l.length
  · rw [List.getElem?_eq_getElem hk]; exact h _ (List.getElem_mem hk)
  · rw [List.getElem?_eq_none (by omega)]; decide

theorem val_lt {l : List Nat} (h : Bd l) : val l < 4294967296 ^ l.length := by
  induction l with
  | nil => simp [val]
  | cons x l ih =>
    have h1 := ih (fun y hy => h y (List.mem_cons_of_mem _ hy))
    have h2 := h x (List.mem_cons_self)
    simp only [val, List.length_cons, Nat.pow_succ]
    omega

theorem pow_pos' (k : Nat) : 0 < 4294967296 ^ k := Nat.pow_pos (by decide)

theorem take_succ_getD (l : List Nat) (k : Nat) : val (l.take (k + 1)) = val (l.take k) + 4294967296 ^ k * l.getD k 0 := by
  rw [List.getD_eq_getElem?_getD]
  by_cases hk : k < l.length
  · rw [List.take_succ_eq_append_getElem hk, val_append, List.getElem?_eq_getElem hk]
    have : (l.take k).length = k := by rw [List.length_take]; omega
    rw [this]; simp [val]
  · rw [List.getElem?_eq_none (by omega), List.take_of_length_le (by omega), List.take_of_length_le (by omega)]; simp

theorem take_drop_val (l : List Nat) (k : Nat) (hk : k ≤ l.length) : val l = val (l.take k) + 4294967296 ^ k * val (l.drop k) := by
  have := val_append (l.take k) (l.drop k)
  rw [List.take_append_drop] at this
  rw [this, List.length_take, Nat.min_eq_left hk]

theorem drop_getD (l : List Nat) (k : Nat) (hk : k < l.length) : val (l.drop k) = l.getD k 0 + 4294967296 * val (l.drop (k + 1)) := by
  rw [List.drop_eq_getElem_cons hk, val, List.getD_eq_getElem?_getD, List.getElem?_eq_getElem hk]; rfl

theorem val_ge {l : List Nat} (h : Tr l) (h0 : l ≠ []) : 4294967296 ^ (l.length - 1) ≤ val l := by
  have hl : 0 < l.length := List.length_pos_iff.2 h0
  rcases h with h | h
  · omega
  rw [take_drop_val l (l.length - 1) (by omega), drop_getD l (l.length - 1) (by omega)]
  have : 1 ≤ l.getD (l.length - 1) 0 := by omega
  calc 4294967296 ^ (l.length - 1) = 4294967296 ^ (l.length - 1) * 1 := by omega
    _ ≤ 4294967296 ^ (l.length - 1) * (l.getD (l.length - 1) 0 + 4294967296 * val (l.drop (l.length - 1 + 1))) := Nat.mul_le_mul_left _ (by omega)
    _ ≤ _ := Nat.le_add_left _ _

theorem val_pos {l : List Nat} (h : Tr l) (h0 : l ≠ []) : 0 < val l := Nat.lt_of_lt_of_le (pow_pos' _) (val_ge h h0)

theorem val_zero {l : List Nat} (h : Tr l) : val l = 0 ↔ l = [] := by
  constructor
  · intro e
    by_cases h0 : l = []
    · exact h0
    · have := val_pos h h0; omega
  · intro e; rw [e]; rfl

theorem len_le_of_val_le {a b : List Nat} (ha : Tr a) (hb : Bd b) (h : val a ≤ val b) : a.length ≤ b.length := by
  by_cases h0 : a = []
  · rw [h0]; simp
  · have h1 := val_ge ha h0
    have h2 := val_lt hb
    have h3 : 4294967296 ^ (a.length - 1) < 4294967296 ^ b.length := by omega
    have h4 := (Nat.pow_lt_pow_iff_right (a := 4294967296) (by decide)).1 h3
    omega

theorem eq_of_val_len : ∀ {a b : List Nat}, Bd a → Bd b → a.length = b.length → val a = val b → a = b
  | [], [], _, _, _, _ => rfl
  | [], _ :: _, _, _, h, _ => by simp at h
  | _ :: _, [], _, _, h, _ => by simp at h
  | x :: a, y :: b, ha, hb, hl, hv => by
    simp only [val] at hv
    have hx := ha x List.mem_cons_self
    have hy := hb y List.mem_cons_self
    have e1 : x = y := by omega
    have e2 : val a = val b := by omega
    rw [e1, eq_of_val_len (fun z hz => ha z (List.mem_cons_of_mem _ hz)) (fun z hz => hb z (List.mem_cons_of_mem _ hz)) (by simpa using hl) e2]

/-- A trimmed list is told by its value. -/
theorem val_inj {a b : List Nat} (ha : Bd a) (hb : Bd b) (ta : Tr a) (tb : Tr b) (h : val a = val b) : a = b := by
  have h1 := len_le_of_val_le ta hb (by omega)
  have h2 := len_le_of_val_le tb ha (by omega)
  exact eq_of_val_len ha hb (by omega) h

theorem getD_snoc (p : List Nat) (x j : Nat) : (p ++ [x]).getD j 0 = if j = p.length then x else p.getD j 0 := by
  simp only [List.getD_eq_getElem?_getD]
  by_cases h : j = p.length
  · rw [if_pos h, h]; simp
  · rw [if_neg h]
    by_cases h2 : j < p.length
    · rw [List.getElem?_append_left h2]
    · rw [List.getElem?_eq_none (by simp; omega), List.getElem?_eq_none (by omega)]

theorem val_snoc (p : List Nat) (x : Nat) : val (p ++ [x]) = val p + 4294967296 ^ p.length * x := by
  rw [val_append]; simp [val]

/-- Zeros at the top tell nothing. -/
theorem val_drop_zero {l : List Nat} {k : Nat} (h : ∀ j, k ≤ j → l.getD j 0 = 0) : val (l.take k) = val l := by
  by_cases hk : k ≤ l.length
  · rw [take_drop_val l k hk]
    have : ∀ d, ∀ m, m + d = l.length → k ≤ m → val (l.drop m) = 0 := by
      intro d
      induction d with
      | zero => intro m hm _; rw [List.drop_of_length_le (by omega)]; rfl
      | succ d ih => intro m hm hkm; rw [drop_getD l m (by omega), ih (m + 1) (by omega) (by omega), h m hkm]
    rw [this (l.length - k) k (by omega) (Nat.le_refl _)]; simp
  · rw [List.take_of_length_le (by omega)]

/-- The integer of a sign and limbs. -/
def int (neg : Bool) (l : List Nat) : Int := if neg then -(val l : Int) else (val l : Int)

/-- The least magnitude that has more than 72 limbs. -/
def W72 : Nat := 4294967296 ^ 72

theorem natAbs_int (neg : Bool) (l : List Nat) : (int neg l).natAbs = val l := by unfold int; cases neg <;> simp

theorem W72_le {l : List Nat} (ht : Tr l) (hl : 72 < l.length) : W72 ≤ val l := by
  have h := val_ge ht (fun e => by rw [e] at hl; simp at hl)
  exact Nat.le_trans (Nat.pow_le_pow_right (by decide) (by omega)) h

theorem lt_W72 {l : List Nat} (hb : Bd l) (hl : l.length ≤ 72) : val l < W72 :=
  Nat.lt_of_lt_of_le (val_lt hb) (Nat.pow_le_pow_right (by decide) hl)

theorem int_mul {m n : Bool} {a b l : List Nat} (h : val l = val a * val b) : int (m != n) l = int m a * int n b := by
  unfold int
  cases m <;> cases n <;> simp [h, Int.mul_neg, Int.neg_mul]

theorem mul_wide {a b : List Nat} (ta : Tr a) (tb : Tr b) (h : 72 < a.length + b.length - 1) (ha : a.length ≤ 72) (hb : b.length ≤ 72) : W72 ≤ val a * val b := by
  have h1 := val_ge ta (fun e => by rw [e] at h; simp at h; omega)
  have h2 := val_ge tb (fun e => by rw [e] at h; simp at h; omega)
  have h3 := Nat.mul_le_mul h1 h2
  rw [← Nat.pow_add] at h3
  exact Nat.le_trans (Nat.pow_le_pow_right (by decide) (by omega)) h3

/-- A right whole number. -/
structure Right (neg : Bool) (l : List Nat) : Prop where
  bd : Bd l
  tr : Tr l
  len : l.length ≤ 72
  zero : l = [] → neg = false

theorem int_inj {m n : Bool} {a b : List Nat} (ha : Right m a) (hb : Right n b) (h : int m a = int n b) : m = n ∧ a = b := by
  have key : val a = val b := by unfold int at h; cases m <;> cases n <;> simp at h <;> omega
  have e := val_inj ha.bd hb.bd ha.tr hb.tr key
  refine ⟨?_, e⟩
  by_cases h0 : a = []
  · rw [ha.zero h0, hb.zero (e ▸ h0)]
  · have := val_pos ha.tr h0
    unfold int at h
    cases m <;> cases n <;> simp at h ⊢ <;> omega

end M
end Go.Proofs.YthijnnififodjaaDoor
