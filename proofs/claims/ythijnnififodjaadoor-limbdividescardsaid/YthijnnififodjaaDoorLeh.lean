/- Plain mathematics of Lehmer's strides: several of Euclid's steps in one, told by the top words (Collins' condition). Nothing of Go stands in it. -/
namespace Go.Proofs.YthijnnififodjaaDoor
namespace Leh

/-- The sign of a step. -/
def sg (t : Bool) : Int := if t then -1 else 1

theorem sg_not (t : Bool) : sg (!t) = - sg t := by cases t <;> rfl
theorem sg_sq (t : Bool) : sg t * sg t = 1 := by cases t <;> rfl

/-- What the numbers are led to by the older pair of factors, and by the newer one. -/
def e0 (t : Bool) (x0 y0 : Nat) (X Y : Int) : Int := - sg t * (x0 * X - y0 * Y)
def e1 (t : Bool) (x1 y1 : Nat) (X Y : Int) : Int := sg t * (x1 * X - y1 * Y)

/-- Numbers whose tops, over K, are A and B. -/
def Tops (A B K : Nat) (X Y : Nat) : Prop := ∃ p q : Nat, p < K ∧ q < K ∧ X = A * K + p ∧ Y = B * K + q

/-- Two steps or more are done. -/
structure Far (A B : Nat) (x0 y0 x1 y1 : Nat) (t : Bool) : Prop where
  some : 1 ≤ y0
  chain : ∀ K X Y, Tops A B K X Y → e0 t x0 y0 X Y ≤ Y ∧ e0 t x0 y0 X Y + e1 t x1 y1 X Y < (X : Int) + Y

/-- One step or more is done. -/
structure On (A B : Nat) (a b x0 y0 x1 y1 x2 y2 : Nat) (t : Bool) : Prop where
  pos : 1 ≤ B
  fa : (a : Int) = e1 t x1 y1 A B
  fb : (b : Int) = e0 t x2 y2 A B
  d1 : (x1 : Int) * y2 - x2 * y1 = sg t
  d0 : (x0 : Int) * y1 - x1 * y0 = - sg t
  le1 : x1 ≤ y1
  le2 : x2 ≤ y2
  le01 : x0 + x1 ≤ y0 + y1
  c1 : y1 ≤ a
  c2 : ((y0 + y1 + a : Nat) : Int) ≤ e0 t x0 y0 A B
  p2 : 1 ≤ y2
  p1 : 1 ≤ y1
  m12 : y1 ≤ y2
  m01 : y0 ≤ y1
  le0 : x0 ≤ y1
  lt : b < a
  how : (x0 = 1 ∧ y0 = 0 ∧ x1 = 0 ∧ y1 = 1 ∧ x2 = 1 ∧ t = true) ∨ Far A B x0 y0 x1 y1 t

/-- The state ahead of a step. -/
def St (A B : Nat) (a b x0 y0 x1 y1 x2 y2 : Nat) (t : Bool) : Prop :=
  (a = A ∧ b = B ∧ x0 = 0 ∧ y0 = 0 ∧ x1 = 1 ∧ y1 = 0 ∧ x2 = 0 ∧ y2 = 1 ∧ t = false) ∨ On A B a b x0 y0 x1 y1 x2 y2 t

theorem On.id1 {A B a b x0 y0 x1 y1 x2 y2 : Nat} {t : Bool} (h : On A B a b x0 y0 x1 y1 x2 y2 t) : y2 * a + y1 * b = A := by
  have h1 := h.fa
  have h2 := h.fb
  have h3 := h.d1
  have h4 := sg_sq t
  unfold e1 at h1
  unfold e0 at h2
  have : (y2 : Int) * a + y1 * b = A := by grind
  exact_mod_cast this

/-- The older remainder is no lesser than the newer one, and the factors of both are told. -/
theorem On.id0 {A B a b x0 y0 x1 y1 x2 y2 : Nat} {t : Bool} (h : On A B a b x0 y0 x1 y1 x2 y2 t) : (y1 : Int) * e0 t x0 y0 A B + y0 * a = A := by
  have h1 := h.fa
  have h3 := h.d0
  have h4 := sg_sq t
  unfold e1 at h1
  unfold e0
  grind

theorem mul_lt_sq {y : Nat} (h : y * (y + y) < 18446744073709551616) : y < 4294967296 := by
  apply Classical.byContradiction
  intro hn
  have h1 : 4294967296 * (4294967296 + 4294967296) ≤ y * (y + y) := Nat.mul_le_mul (by omega) (by omega)
  omega

/-- The factors are below 2^32. -/
theorem On.small {A B a b x0 y0 x1 y1 x2 y2 : Nat} {t : Bool} (h : On A B a b x0 y0 x1 y1 x2 y2 t) (hA : A < 18446744073709551616) : y1 < 4294967296 ∧ x1 < 4294967296 ∧ y0 < 4294967296 ∧ x0 < 4294967296 := by
  have h0 := h.id0
  have hc1 := h.c1
  have hc2 := h.c2
  have h1 := h.le1
  have h2 := h.le01
  have h3 := h.m01
  have hy : y1 < 4294967296 := by
    apply mul_lt_sq
    obtain ⟨E, hE⟩ : ∃ E : Nat, e0 t x0 y0 A B = (E : Int) := Int.eq_ofNat_of_zero_le (by omega)
    rw [hE] at h0 hc2
    have h4 : y1 * E + y0 * a = A := by exact_mod_cast h0
    have h5 : y1 * (y1 + y1) ≤ y1 * E := Nat.mul_le_mul_left _ (by omega)
    omega
  have hx0 : x0 < 4294967296 := by
    have := h.le0
    omega
  exact ⟨hy, by omega, by omega, hx0⟩

theorem sg_cases (t : Bool) : sg t = 1 ∨ sg t = -1 := by cases t <;> simp [sg]

/-- A multiple of the one less a multiple of the other, told by the tops. -/
theorem near {s : Int} {x y p q K : Nat} (hs : s = 1 ∨ s = -1) (hx : x ≤ y) (hp : p < K) (hq : q < K) : -((y : Int) * K) ≤ s * ((x : Int) * p - y * q) ∧ s * ((x : Int) * p - y * q) ≤ (y : Int) * K := by
  have h1 : x * p ≤ y * K := Nat.mul_le_mul hx (by omega)
  have h2 : y * q ≤ y * K := Nat.mul_le_mul_left _ (by omega)
  have h1' : (x : Int) * p ≤ y * K := by exact_mod_cast h1
  have h2' : (y : Int) * q ≤ y * K := by exact_mod_cast h2
  have h3 : (0 : Int) ≤ (x : Int) * p := by exact_mod_cast Nat.zero_le _
  have h4 : (0 : Int) ≤ (y : Int) * q := by exact_mod_cast Nat.zero_le _
  generalize (x : Int) * p = u at *
  generalize (y : Int) * q = v at *
  generalize (y : Int) * K = k at *
  rcases hs with rfl | rfl <;> omega

/-- What the newer pair leads to is not below 0, and not above what the older pair leads to. -/
theorem On.order {A B a b x0 y0 x1 y1 x2 y2 : Nat} {t : Bool} (h : On A B a b x0 y0 x1 y1 x2 y2 t) {K X Y : Nat} (ht : Tops A B K X Y) : 0 ≤ e1 t x1 y1 X Y ∧ e1 t x1 y1 X Y ≤ e0 t x0 y0 X Y := by
  obtain ⟨p, q, hp, hq, rfl, rfl⟩ := ht
  have hc1 := h.c1
  have hc2 := h.c2
  have hfa := h.fa
  constructor
  · have h1 := (near (sg_cases t) h.le1 hp hq).1
    have h2 : e1 t x1 y1 ((A * K + p : Nat) : Int) ((B * K + q : Nat) : Int) = (a : Int) * K + sg t * ((x1 : Int) * p - y1 * q) := by
      rw [hfa]; unfold e1; push_cast; grind
    have h3 : (y1 : Int) * K ≤ (a : Int) * K := by exact_mod_cast Nat.mul_le_mul_right K hc1
    omega
  · have h1 := (near (sg_cases t) h.le01 hp hq).2
    obtain ⟨E, hE⟩ : ∃ E : Nat, e0 t x0 y0 A B = (E : Int) := Int.eq_ofNat_of_zero_le (by omega)
    have h2 : e0 t x0 y0 ((A * K + p : Nat) : Int) ((B * K + q : Nat) : Int) - e1 t x1 y1 ((A * K + p : Nat) : Int) ((B * K + q : Nat) : Int) = (E : Int) * K - (a : Int) * K - sg t * (((x0 + x1 : Nat) : Int) * p - ((y0 + y1 : Nat) : Int) * q) := by
      rw [hfa, ← hE]; unfold e0 e1; push_cast; grind
    rw [hE] at hc2
    have h3 : ((y0 + y1 : Nat) : Int) * K + (a : Int) * K ≤ (E : Int) * K := by
      have h4 : (y0 + y1 + a) * K ≤ E * K := Nat.mul_le_mul_right K (by omega)
      rw [Nat.add_mul] at h4
      exact_mod_cast h4
    omega

theorem tops_pos {A B K X Y : Nat} (h : Tops A B K X Y) (hB : 1 ≤ B) : 1 ≤ Y := by
  obtain ⟨p, q, hp, hq, rfl, rfl⟩ := h
  have : 1 * 1 ≤ B * K := Nat.mul_le_mul hB (by omega)
  omega

/-- The first step. -/
theorem st_first {A B : Nat} (h1 : 1 ≤ B) (h2 : B + 1 ≤ A) : On A B B (A % B) 1 0 0 1 1 (A / B) true := by
  have hq : 1 ≤ A / B := (Nat.one_le_div_iff h1).2 (by omega)
  have he := Nat.div_add_mod A B
  have he' : (B : Int) * ((A / B : Nat) : Int) + ((A % B : Nat) : Int) = (A : Int) := by exact_mod_cast he
  refine ⟨h1, by simp [e1, sg], ?_, by simp [sg], by simp [sg], by omega, hq, by omega, h1, ?_, hq, by omega, hq, by omega, by omega, Nat.mod_lt _ h1, .inl ⟨rfl, rfl, rfl, rfl, rfl, rfl⟩⟩
  · simp only [e0, sg, if_true]; grind
  · simp only [e0, sg, if_true]; push_cast; omega

/-- A further step. -/
theorem On.next {A B a b x0 y0 x1 y1 x2 y2 : Nat} {t : Bool} (h : On A B a b x0 y0 x1 y1 x2 y2 t) (hb : y2 ≤ b) (hab : y1 + y2 + b ≤ a) :
    On A B b (a % b) x1 y1 x2 y2 (x1 + a / b * x2) (y1 + a / b * y2) (!t) := by
  have hb1 : 1 ≤ b := by have := h.p2; omega
  have hq : 1 ≤ a / b := (Nat.one_le_div_iff hb1).2 (by omega)
  have he := Nat.div_add_mod a b
  have he' : (b : Int) * ((a / b : Nat) : Int) + ((a % b : Nat) : Int) = (a : Int) := by exact_mod_cast he
  have hfa := h.fa
  have hfb := h.fb
  have hd1 := h.d1
  have hd0 := h.d0
  have hle1 := h.le1
  have hle2 := h.le2
  have hq2 : y2 ≤ a / b * y2 := Nat.le_mul_of_pos_left _ hq
  have hqx : a / b * x2 ≤ a / b * y2 := Nat.mul_le_mul_left _ hle2
  have hns := sg_not t
  have base : On A B b (a % b) x1 y1 x2 y2 (x1 + a / b * x2) (y1 + a / b * y2) (!t) ∨ ¬ Far A B x1 y1 x2 y2 (!t) := by
    by_cases hf : Far A B x1 y1 x2 y2 (!t)
    · left
      refine ⟨h.pos, ?_, ?_, ?_, ?_, hle2, by omega, by omega, hb, ?_, by have := h.p1; omega, h.p2, by omega, h.m12, by have := h.m12; omega, Nat.mod_lt _ hb1, .inr hf⟩
      · rw [hfb]; unfold e0 e1; rw [hns]
      · unfold e1 at hfa; unfold e0 at hfb ⊢; rw [hns]
        clear he
        generalize a / b = Q at *
        generalize a % b = R at *
        push_cast
        clear hab hb hq hqx hq2 hle1 hle2 hb1 hf h hd1 hd0
        grind
      · rw [hns]; clear he he'; generalize a / b = Q at *; push_cast; clear hab hb hq hqx hq2 hle1 hle2 hb1 hf h hd0 hfa hfb; grind
      · rw [hns]; omega
      · have : e0 (!t) x1 y1 A B = (a : Int) := by rw [hfa]; unfold e0 e1; rw [hns]; grind
        rw [this]; omega
    · exact .inr hf
  rcases base with h9 | h9
  · exact h9
  · exfalso
    apply h9
    refine ⟨h.p1, fun K X Y hT => ?_⟩
    have ho := h.order hT
    have hY := tops_pos hT h.pos
    have e1' : e0 (!t) x1 y1 X Y = e1 t x1 y1 X Y := by unfold e0 e1; rw [hns]; grind
    have e2' : e1 (!t) x2 y2 X Y = e0 t x2 y2 X Y := by unfold e0 e1; rw [hns]
    -- what the next pair leads to is not above what the newer one leads to
    have hnext : e0 t x2 y2 X Y ≤ e1 t x1 y1 X Y := by
      obtain ⟨p, q, hp, hq', rfl, rfl⟩ := hT
      have h1 := (near (sg_cases t) (show x1 + x2 ≤ y1 + y2 by omega) hp hq').1
      have h2 : e1 t x1 y1 ((A * K + p : Nat) : Int) ((B * K + q : Nat) : Int) - e0 t x2 y2 ((A * K + p : Nat) : Int) ((B * K + q : Nat) : Int) = (a : Int) * K - (b : Int) * K + sg t * (((x1 + x2 : Nat) : Int) * p - ((y1 + y2 : Nat) : Int) * q) := by
        rw [hfa, hfb]; unfold e0 e1; push_cast; grind
      have h3 : ((y1 + y2 : Nat) : Int) * K + (b : Int) * K ≤ (a : Int) * K := by
        have h4 : (y1 + y2 + b) * K ≤ a * K := Nat.mul_le_mul_right K hab
        rw [Nat.add_mul] at h4
        exact_mod_cast h4
      omega
    rw [e1', e2']
    rcases h.how with ⟨rfl, rfl, rfl, rfl, rfl, rfl⟩ | hf
    · have h7 : e1 true 0 1 X Y = Y := by simp [e1, sg]
      have h8 : e0 true 1 y2 X Y = (X : Int) - y2 * Y := by simp [e0, sg]
      have h9 : (1 * Y : Nat) ≤ y2 * Y := Nat.mul_le_mul_right _ h.p2
      have h10 : ((1 * Y : Nat) : Int) ≤ (y2 : Int) * Y := by exact_mod_cast h9
      rw [h7, h8]
      constructor
      · omega
      · omega
    · have := hf.chain K X Y hT
      omega

theorem st_next {A B a b x0 y0 x1 y1 x2 y2 : Nat} {t : Bool} (hAB : B ≤ A) (h : St A B a b x0 y0 x1 y1 x2 y2 t) (hb : y2 ≤ b) (hab : y1 + y2 + b ≤ a) :
    On A B b (a % b) x1 y1 x2 y2 (x1 + a / b * x2) (y1 + a / b * y2) (!t) := by
  rcases h with ⟨rfl, rfl, rfl, rfl, rfl, rfl, rfl, rfl, rfl⟩ | h
  · have := st_first (A := a) (B := b) (by omega) (by omega)
    simpa using this
  · exact h.next hb hab

/-- Ahead of a step nothing overflows, and the newer remainder is the lesser one. -/
theorem st_bounds {A B a b x0 y0 x1 y1 x2 y2 : Nat} {t : Bool} (hA : A < 18446744073709551616) (hAB : B ≤ A) (h : St A B a b x0 y0 x1 y1 x2 y2 t) :
    x0 < 4294967296 ∧ y0 < 4294967296 ∧ x1 < 4294967296 ∧ y1 < 4294967296 ∧ x2 ≤ y2 ∧ 1 ≤ y2 ∧ y2 < 18446744073709551616 ∧ a < 18446744073709551616 ∧ b ≤ a ∧ (1 ≤ b → y1 + y2 ≤ A) := by
  rcases h with ⟨rfl, rfl, rfl, rfl, rfl, rfl, rfl, rfl, rfl⟩ | h
  · omega
  · have hs := h.small hA
    have hi := h.id1
    have hc := h.c1
    have hp := h.p2
    have hp1 := h.p1
    have ha1 : 1 ≤ a := by omega
    have h2 : y2 * 1 ≤ y2 * a := Nat.mul_le_mul_left _ ha1
    have h3 : 1 * a ≤ y2 * a := Nat.mul_le_mul_right _ hp
    have hba : b ≤ a := Nat.le_of_lt h.lt
    refine ⟨hs.2.2.2, hs.2.2.1, hs.2.1, hs.1, h.le2, hp, by omega, by omega, hba, fun hb => ?_⟩
    have h4 : y1 * 1 ≤ y1 * b := Nat.mul_le_mul_left _ hb
    omega

/-- Numbers that make up one another have the same common divisor. -/
theorem gcd_of_comb {X Y N0 N1 x0 y0 x1 y1 : Nat} {s : Int} (h0 : (N0 : Int) = - s * (x0 * X - y0 * Y)) (h1 : (N1 : Int) = s * (x1 * X - y1 * Y)) (hX : X = y1 * N0 + y0 * N1) (hY : Y = x1 * N0 + x0 * N1) : Nat.gcd N0 N1 = Nat.gcd X Y := by
  apply Nat.dvd_antisymm
  · apply Nat.dvd_gcd
    · rw [hX]; exact Nat.dvd_add (Nat.dvd_mul_left_of_dvd (Nat.gcd_dvd_left _ _) _) (Nat.dvd_mul_left_of_dvd (Nat.gcd_dvd_right _ _) _)
    · rw [hY]; exact Nat.dvd_add (Nat.dvd_mul_left_of_dvd (Nat.gcd_dvd_left _ _) _) (Nat.dvd_mul_left_of_dvd (Nat.gcd_dvd_right _ _) _)
  · have dX : ((Nat.gcd X Y : Nat) : Int) ∣ (X : Int) := Int.natCast_dvd_natCast.2 (Nat.gcd_dvd_left _ _)
    have dY : ((Nat.gcd X Y : Nat) : Int) ∣ (Y : Int) := Int.natCast_dvd_natCast.2 (Nat.gcd_dvd_right _ _)
    apply Nat.dvd_gcd
    · apply Int.natCast_dvd_natCast.1
      rw [h0]
      exact Int.dvd_mul_of_dvd_right (Int.dvd_sub (Int.dvd_mul_of_dvd_right dX) (Int.dvd_mul_of_dvd_right dY))
    · apply Int.natCast_dvd_natCast.1
      rw [h1]
      exact Int.dvd_mul_of_dvd_right (Int.dvd_sub (Int.dvd_mul_of_dvd_right dX) (Int.dvd_mul_of_dvd_right dY))

/-- Where strides lead: to lesser numbers of the same common divisor. -/
theorem st_done {A B a b x0 y0 x1 y1 x2 y2 : Nat} {t : Bool} (h : St A B a b x0 y0 x1 y1 x2 y2 t) (hy : y0 ≠ 0) {K X Y : Nat} (hT : Tops A B K X Y) :
    ∃ N0 N1 : Nat, (N0 : Int) = e0 t x0 y0 X Y ∧ (N1 : Int) = e1 t x1 y1 X Y ∧ N1 ≤ N0 ∧ N0 ≤ Y ∧ N0 + N1 < X + Y ∧ Nat.gcd N0 N1 = Nat.gcd X Y := by
  rcases h with ⟨rfl, rfl, rfl, rfl, rfl, rfl, rfl, rfl, rfl⟩ | h
  · exact absurd rfl hy
  · rcases h.how with ⟨_, e, _⟩ | hf
    · exact absurd e hy
    · have ho := h.order hT
      have hc := hf.chain K X Y hT
      obtain ⟨N1, hN1⟩ : ∃ N : Nat, e1 t x1 y1 X Y = (N : Int) := Int.eq_ofNat_of_zero_le ho.1
      obtain ⟨N0, hN0⟩ : ∃ N : Nat, e0 t x0 y0 X Y = (N : Int) := Int.eq_ofNat_of_zero_le (by omega)
      rw [hN0, hN1] at ho hc
      have hd := h.d0
      have hs := sg_sq t
      have g0 : (N0 : Int) = - sg t * (x0 * X - y0 * Y) := by rw [← hN0]; rfl
      have g1 : (N1 : Int) = sg t * (x1 * X - y1 * Y) := by rw [← hN1]; rfl
      refine ⟨N0, N1, hN0.symm, hN1.symm, by omega, by omega, by omega, gcd_of_comb (s := sg t) g0 g1 ?_ ?_⟩
      · have : (X : Int) = y1 * N0 + y0 * N1 := by rw [g0, g1]; clear g0 g1 hc ho hN0 hN1 hf h; grind
        exact_mod_cast this
      · have : (Y : Int) = x1 * N0 + x0 * N1 := by rw [g0, g1]; clear g0 g1 hc ho hN0 hN1 hf h; grind
        exact_mod_cast this

end Leh
end Go.Proofs.YthijnnififodjaaDoor
