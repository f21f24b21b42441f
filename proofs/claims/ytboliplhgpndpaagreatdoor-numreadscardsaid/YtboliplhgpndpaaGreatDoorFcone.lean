/- Lists of one and two fractions; a right fraction's parts. -/
import Derived.Test.YtboliplhgpndpaaGreatDoorGao
import Derived.Test.YtboliplhgpndpaaGreatDoorGan
namespace Go.Proofs.YtboliplhgpndpaaGreatDoor
open Go.RowKit
namespace F
structure RatR (m n : Bool) (a d : List Nat) : Prop where
 ra : R m a
 rd : R n d
 pos : 0 < M.int n d
 low : Nat.gcd (M.val a) (M.val d) = 1
theorem RatR.sgn {m n : Bool} {a d : List Nat} (h : RatR m n a d) : n = false := by
 cases n
 ·
  rfl
 ·
  have := int_neg_lt h.rd; have := h.pos; omega
theorem RatR.val {m n : Bool} {a d : List Nat} (h : RatR m n a d) : M.int n d = (M.val d : Int) := by rw [h.sgn]; simp [M.int]
theorem RatR.vpos {m n : Bool} {a d : List Nat} (h : RatR m n a d) : 0 < M.val d := by have := h.pos; rw [h.val] at this; omega
def two {α : Type} (x y : α) (i : Nat) : α := if i = 0 then x else y
theorem RatAll.two {w : World} {b : Nat} {m n p q : Bool} {a1 a2 b1 b2 : Option Addr} {k1 c1 k2 c2 k3 c3 k4 c4 : Nat} {an ad bn bd : List Nat}
  (h0 : w.cell? ⟨b, 0, none⟩ = some (.bool m)) (h1 : w.cell? ⟨b, 1, none⟩ = some (.slice a1 k1 c1)) (h2 : w.cell? ⟨b, 2, none⟩ = some (.bool n)) (h3 : w.cell? ⟨b, 3, none⟩ = some (.slice a2 k2 c2))
  (h4 : w.cell? ⟨b, 4, none⟩ = some (.bool p)) (h5 : w.cell? ⟨b, 5, none⟩ = some (.slice b1 k3 c3)) (h6 : w.cell? ⟨b, 6, none⟩ = some (.bool q)) (h7 : w.cell? ⟨b, 7, none⟩ = some (.slice b2 k4 c4))
  (s1 : Sl w (.slice a1 k1 c1) an) (s2 : Sl w (.slice a2 k2 c2) ad) (s3 : Sl w (.slice b1 k3 c3) bn) (s4 : Sl w (.slice b2 k4 c4) bd)
  (l1 : an.length ≤ 9223372036854775807) (l2 : ad.length ≤ 9223372036854775807) (l3 : bn.length ≤ 9223372036854775807) (l4 : bd.length ≤ 9223372036854775807) :
  RatAll w b 0 2 (F.two m p) (F.two n q) (F.two a1 b1) (F.two a2 b2) (F.two k1 k3) (F.two c1 c3) (F.two k2 k4) (F.two c2 c4) (F.two an bn) (F.two ad bd) := by
 intro i hi
 match i, hi with
 | 0, _ => exact ⟨⟨h0, h1, h2, h3⟩, s1, s2, l1, l2⟩
 | 1, _ => exact ⟨⟨h4, h5, h6, h7⟩, s3, s4, l3, l4⟩
theorem Refused.two {m n p q : Bool} {an ad bn bd : List Nat} {c : Int} (hA : RatR m n an ad) (hB : RatR p q bn bd) (h : Refused 2 (F.two m p) (F.two n q) (F.two an bn) (F.two ad bd) c) : c = 0 := by
 rcases h with ⟨_, i, hi, h⟩ | ⟨_, ⟨_, i, hi, h⟩ | ⟨h, _⟩⟩
 ·
  exfalso
  match i, hi with
  | 0, _ => exact h ⟨hA.ra, hA.rd⟩
  | 1, _ => exact h ⟨hB.ra, hB.rd⟩
 ·
  exfalso
  match i, hi with
  | 0, _ => exact h ⟨hA.pos, hA.low⟩
  | 1, _ => exact h ⟨hB.pos, hB.low⟩
 ·
  exact h
theorem RatAll.single {w : World} {b : Nat} {m n : Bool} {a1 a2 : Option Addr} {k1 c1 k2 c2 : Nat} {an ad : List Nat}
  (h0 : w.cell? ⟨b, 0, none⟩ = some (.bool m)) (h1 : w.cell? ⟨b, 1, none⟩ = some (.slice a1 k1 c1)) (h2 : w.cell? ⟨b, 2, none⟩ = some (.bool n)) (h3 : w.cell? ⟨b, 3, none⟩ = some (.slice a2 k2 c2))
  (s1 : Sl w (.slice a1 k1 c1) an) (s2 : Sl w (.slice a2 k2 c2) ad) (l1 : an.length ≤ 9223372036854775807) (l2 : ad.length ≤ 9223372036854775807) :
  RatAll w b 0 1 (fun _ => m) (fun _ => n) (fun _ => a1) (fun _ => a2) (fun _ => k1) (fun _ => c1) (fun _ => k2) (fun _ => c2) (fun _ => an) (fun _ => ad) := by
 intro i hi
 match i, hi with
 | 0, _ => exact ⟨⟨h0, h1, h2, h3⟩, s1, s2, l1, l2⟩
theorem Refused.single {m n : Bool} {an ad : List Nat} {c : Int} (hA : RatR m n an ad) (h : Refused 1 (fun _ => m) (fun _ => n) (fun _ => an) (fun _ => ad) c) : c = 0 := by
 rcases h with ⟨_, i, hi, h⟩ | ⟨_, ⟨_, i, hi, h⟩ | ⟨h, _⟩⟩
 ·
  exact absurd ⟨hA.ra, hA.rd⟩ h
 ·
  exact absurd ⟨hA.pos, hA.low⟩ h
 ·
  exact h
end F
end Go.Proofs.YtboliplhgpndpaaGreatDoor
