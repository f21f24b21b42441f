/- shuntref02.Faults: what a list of fractions is refused for. What RatOrder and RatRounds need: lists of three, Same of what differs, the sums' widths and signs. Plain mathematics of Round: a half away at most, just a half only where it is even; it never falls. -/
import Derived.Test.YtkomjjpekgmjfaaGreatFfault
import Derived.Test.YtkomjjpekgmjfaaGreatFawk
import Derived.Test.YtkomjjpekgmjfaaGreatGaq
import Derived.Test.YtkomjjpekgmjfaaGreatGar
import Derived.Test.YtkomjjpekgmjfaaGreatGae
namespace Go.Proofs.YtkomjjpekgmjfaaGreat
open Go.RowKit
namespace F
end F
end Go.Proofs.YtkomjjpekgmjfaaGreat

namespace Go.Proofs.YtkomjjpekgmjfaaGreat
open Go.RowKit
namespace F
def three {α : Type} (x y z : α) (i : Nat) : α := if i = 0 then x else if i = 1 then y else z
theorem RatAll.three {w : World} {b : Nat} {m n p q r s : Bool} {a1 a2 b1 b2 d1 d2 : Option Addr} {k1 c1 k2 c2 k3 c3 k4 c4 k5 c5 k6 c6 : Nat} {an ad bn bd cn cd : List Nat}
  (h : ∀ o v, (#[Value.bool m, .slice a1 k1 c1, .bool n, .slice a2 k2 c2, .bool p, .slice b1 k3 c3, .bool q, .slice b2 k4 c4, .bool r, .slice d1 k5 c5, .bool s, .slice d2 k6 c6])[o]? = some v → w.cell? ⟨b, o, none⟩ = some v)
  (s1 : Sl w (.slice a1 k1 c1) an) (s2 : Sl w (.slice a2 k2 c2) ad) (s3 : Sl w (.slice b1 k3 c3) bn) (s4 : Sl w (.slice b2 k4 c4) bd) (s5 : Sl w (.slice d1 k5 c5) cn) (s6 : Sl w (.slice d2 k6 c6) cd)
  (l1 : an.length ≤ 9223372036854775807) (l2 : ad.length ≤ 9223372036854775807) (l3 : bn.length ≤ 9223372036854775807) (l4 : bd.length ≤ 9223372036854775807) (l5 : cn.length ≤ 9223372036854775807) (l6 : cd.length ≤ 9223372036854775807) :
  RatAll w b 0 3 (F.three m p r) (F.three n q s) (F.three a1 b1 d1) (F.three a2 b2 d2) (F.three k1 k3 k5) (F.three c1 c3 c5) (F.three k2 k4 k6) (F.three c2 c4 c6) (F.three an bn cn) (F.three ad bd cd) := by
 intro i hi
 match i, hi with
 | 0, _ => exact ⟨⟨h 0 _ rfl, h 1 _ rfl, h 2 _ rfl, h 3 _ rfl⟩, s1, s2, l1, l2⟩
 | 1, _ => exact ⟨⟨h 4 _ rfl, h 5 _ rfl, h 6 _ rfl, h 7 _ rfl⟩, s3, s4, l3, l4⟩
 | 2, _ => exact ⟨⟨h 8 _ rfl, h 9 _ rfl, h 10 _ rfl, h 11 _ rfl⟩, s5, s6, l5, l6⟩
theorem IsSum.sign {x x' N : Int} {y y' D : Nat} (h : IsSum x y x' y' N D) (hy : 0 < y) (hy' : 0 < y') : (N < 0 ↔ x * y' + x' * y < 0) ∧ (N = 0 ↔ x * y' + x' * y = 0) := by
 have e := h.eq
 have p : (0 : Int) < (y : Int) * y' := Int.mul_pos (by omega) (by omega)
 have q : (0 : Int) < (D : Int) := by have := h.pos; omega
 generalize x * (y' : Int) + x' * y = S at *
 generalize (y : Int) * y' = P at *
 generalize (D : Int) = Q at *
 have a1 : N < 0 → N * P < 0 := fun h => Int.mul_neg_of_neg_of_pos h p
 have a2 : 0 < N → 0 < N * P := fun h => Int.mul_pos h p
 have b1 : S < 0 → S * Q < 0 := fun h => Int.mul_neg_of_neg_of_pos h q
 have b2 : 0 < S → 0 < S * Q := fun h => Int.mul_pos h q
 have a3 : N = 0 → N * P = 0 := fun h => by rw [h]; simp
 have b3 : S = 0 → S * Q = 0 := fun h => by rw [h]; simp
 rw [e] at a1 a2 a3
 constructor <;> constructor <;> intro hh
 ·
  rcases Int.lt_trichotomy S 0 with k | k | k
  ·
   exact k
  ·
   have := a1 hh; have := b3 k; omega
  ·
   have := a1 hh; have := b2 k; omega
 ·
  rcases Int.lt_trichotomy N 0 with k | k | k
  ·
   exact k
  ·
   have := a3 k; have := b1 hh; omega
  ·
   have := a2 k; have := b1 hh; omega
 ·
  rcases Int.lt_trichotomy S 0 with k | k | k
  ·
   have := a3 hh; have := b1 k; omega
  ·
   exact k
  ·
   have := a3 hh; have := b2 k; omega
 ·
  rcases Int.lt_trichotomy N 0 with k | k | k
  ·
   have := a1 k; have := b3 hh; omega
  ·
   exact k
  ·
   have := a2 k; have := b3 hh; omega
end F
end Go.Proofs.YtkomjjpekgmjfaaGreat

namespace Go.Proofs.YtkomjjpekgmjfaaGreat
open Go.RowKit
namespace F
theorem near_cut (n : Int) {d : Nat} (hd : 0 < d) : -(d : Int) ≤ 2 * (n - near n d * d) ∧ 2 * (n - near n d * d) ≤ d ∧ (2 * (n - near n d * d) = d ∨ 2 * (n - near n d * d) = -(d : Int) → near n d % 2 = 0) := by
 have c := FM.cut_of n hd
 obtain ⟨e, hl, hp, hn⟩ := c
 unfold near
 generalize Int.tdiv n d = q at *
 generalize Int.tmod n d = r at *
 have h1 : isgn ((r.natAbs : Nat) : Int) ((d : Int) - r.natAbs) = 1 ↔ (d : Int) < 2 * r.natAbs := by unfold isgn; split <;> (try split) <;> omega
 have h0 : isgn ((r.natAbs : Nat) : Int) ((d : Int) - r.natAbs) = 0 ↔ (d : Int) = 2 * r.natAbs := by unfold isgn; split <;> (try split) <;> omega
 have hs : isgn r 0 = if r < 0 then -1 else if r = 0 then 0 else 1 := rfl
 split
 ·
  rename_i hc
  rw [h1, h0] at hc
  clear h1 h0
  rcases Int.lt_trichotomy r 0 with k | k | k
  ·
   rw [hs, if_pos k, Int.add_mul]
   generalize q * (d : Int) = Q at *
   refine ⟨by omega, by omega, fun h => by omega⟩
  ·
   exfalso; subst k; simp at hc; omega
  ·
   rw [hs, if_neg (by omega), if_neg (by omega), Int.add_mul]
   generalize q * (d : Int) = Q at *
   refine ⟨by omega, by omega, fun h => by omega⟩
 ·
  rename_i hc
  rw [h1, h0] at hc
  clear h1 h0 hs
  generalize q * (d : Int) = Q at *
  refine ⟨by omega, by omega, fun h => ?_⟩
  by_cases hq : q % 2 = 0
  ·
   exact hq
  ·
   exfalso; apply hc; right; constructor <;> omega
end F
end Go.Proofs.YtkomjjpekgmjfaaGreat
