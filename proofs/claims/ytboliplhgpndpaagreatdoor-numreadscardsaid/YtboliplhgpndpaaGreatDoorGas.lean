/- num.Grid; law03's awake. shuntref03.isDigit, shuntref03.tail. What the document's Parse reads, position by position. -/
import Derived.Test.YtboliplhgpndpaaGreatDoorNscal
import Derived.Test.YtboliplhgpndpaaGreatDoorGak
import Derived.Test.YtboliplhgpndpaaGreatDoorFround
import Derived.Test.YtboliplhgpndpaaGreatDoorGaq
import Derived.Test.YtboliplhgpndpaaGreatDoorNtext
namespace Go.Proofs.YtboliplhgpndpaaGreatDoor
open Go.RowKit
namespace Q
theorem okN_bd {m x : Int} (h : okN m x = true) : -999999999 ≤ m ∧ m ≤ 999999999 ∧ -18 ≤ x ∧ x ≤ 9 := by
 rcases okN_iff.1 h with ⟨rfl, rfl⟩ | ⟨_, h1, h2, _, h4, h5⟩
 ·
  decide
 ·
  exact ⟨h1, h2, h4, h5⟩
def Scl (m x N : Int) (D : Nat) : Prop := 0 < D ∧ Nat.Coprime N.natAbs D ∧ N * (10 ^ (-x).toNat : Nat) = m * (10 ^ x.toNat : Nat) * D
def GridIs (e : Ending) (m x : Int) : Prop :=
 (okN m x = false ∧ e = .returned (.tuple #[.int .i64 0, .int .i64 30])) ∨ (okN m x = true ∧ ∃ N D, Scl m (x + 9) N D ∧ e = .returned (.tuple #[.int .i64 (F.gridV (F.near N D)), .int .i64 (F.gridE (F.near N D))]))
set_option maxRecDepth 100000 in
set_option maxHeartbeats 4000000 in
theorem grid_any (m x : Int) (w : World) : Calls Tryz.prog 15 #[.agg #[.int .i64 m, .int .i64 x]] w fun e w' => Kept w w' ∧ GridIs e m x := by
 go_enter Tryz.func15, Tryz.ntmps15
 go_upto_region 1 with fail
 have hK := (Kept.refl w).alloc (.cells #[.int .i64 m, .int .i64 x] 24)
 have hR := Row2.alloc 24 w (.int .i64 m) (.int .i64 x)
 generalize w.alloc (.cells #[.int .i64 m, .int .i64 x] 24) = W at hK hR ⊢
 obtain ⟨p1, hp1⟩ : ∃ p, p = w.heap.size := ⟨_, rfl⟩
 rw [← hp1] at hR ⊢
 have HK := hid' hK
 have HR := hid' hR
 obtain ⟨q0, q1, q2, q3⟩ := hR.all
 clear hp1 hK hR
 go_wp2_with fail
 refine (Valid_any m x _).mono ?_
 rintro e w1 ⟨hk1, rfl⟩
 have HK1 := hid' (HK.out.trans hk1)
 have hR1 := HR.out.kept hk1
 clear hk1 q0 q1 q2 q3
 by_cases ho : okN m x = true
 ·
  have hb := okN_bd ho
  rw [ho]
  have HO := hid' ho
  clear ho
  obtain ⟨q0, q1, q2, q3⟩ := hR1.all
  have hwr : IntKind.i64.wrap (x + 9) = x + 9 := wrap_i64' (by omega) (by omega)
  clear hR1
  go_wp2_with fail
  refine (scaled_any m (x + 9) (by omega) (by omega) (by omega) (by omega) _).mono ?_
  rintro e w2 ⟨hk2, v, N, D, rfl, hq, he⟩
  have HS : Hid (Scl m (x + 9) N D) := ⟨hq.low.1, hq.low.2, he⟩
  obtain ⟨s, ao, ap, k, c, k', c', l, l', rfl, n1, n2, r, rfl, rfl⟩ := hq
  have H2 := hid' (And.intro n1.sl (And.intro n2.sl r))
  have HK2 := hid' (HK1.out.trans hk2)
  clear n1 n2 r he hk2 q0 q1 q2 q3
  go_wp2_with fail
  refine (F.Round_ok s false ao ap k c k' c' l l' _ H2.out.1 H2.out.2.1 H2.out.2.2).mono ?_
  rintro e w3 ⟨rfl, hk3⟩
  have HK3 := hid' (HK2.out.trans hk3)
  clear hk3
  generalize hgv : F.gridV (F.near (M.int s l) (M.val l')) = gv
  generalize hge : F.gridE (F.near (M.int s l) (M.val l')) = ge
  have HG := hid' (And.intro hgv hge)
  clear hgv hge
  go_wp2
  go_ret2
  exact ⟨HK3.out, .inr ⟨HO.out, _, _, HS.out, by rw [HG.out.1, HG.out.2]; rfl⟩⟩
 ·
  have ho : okN m x = false := by simpa using ho
  rw [ho]
  have HO := hid' ho
  clear ho hR1
  go_wp2
  go_ret2
  exact ⟨HK1.out, .inl ⟨HO.out, rfl⟩⟩
theorem scl_one {N N' m x : Int} {D D' : Nat} (h : Scl m x N D) (h' : Scl m x N' D') : N = N' ∧ D = D' := by
 obtain ⟨p, c, e⟩ := h
 obtain ⟨p', c', e'⟩ := h'
 have e3 : N * D' = N' * D := by
  have hz : (0 : Int) < ((10 ^ (-x).toNat : Nat) : Int) := by have := Nat.pow_pos (n := (-x).toNat) (show 0 < 10 by decide); omega
  have hz' : ((10 ^ (-x).toNat : Nat) : Int) ≠ 0 := by omega
  apply Int.eq_of_mul_eq_mul_right hz'
  rw [Int.mul_right_comm, e, Int.mul_right_comm N', e', Int.mul_right_comm]
 have e4 := congrArg Int.natAbs e3
 rw [Int.natAbs_mul, Int.natAbs_mul, Int.natAbs_natCast, Int.natAbs_natCast] at e4
 have d1 : D ∣ D' := (c.symm.dvd_of_dvd_mul_left (by rw [e4]; exact Nat.dvd_mul_left _ _))
 have d2 : D' ∣ D := (c'.symm.dvd_of_dvd_mul_left (by rw [← e4]; exact Nat.dvd_mul_left _ _))
 have ed := Nat.dvd_antisymm d1 d2
 subst ed
 refine ⟨?_, rfl⟩
 have : (D : Int) ≠ 0 := by omega
 exact Int.eq_of_mul_eq_mul_right this e3
structure Lay (w : World) : Prop where
 lett : Lett w
 err : ErrV w
 tab : Tab w
theorem Lay.kept {w w' : World} (h : Lay w) (k : Kept w w') : Lay w' := ⟨h.lett.kept k, h.err.kept k, h.tab.kept k⟩
set_option maxRecDepth 100000 in
set_option maxHeartbeats 8000000 in
theorem awake_any (w : World) (hl : Lay w) : Calls Tryz.prog 8 #[] w fun e w' => Kept w w' ∧ e = .returned (.bool true) := by
 have HL := hid' hl
 clear hl
 go_enter Tryz.func8, Tryz.ntmps8
 go_wp2_with fail
 refine (parse_any ⟨#[52, 46, 55, 107]⟩ _ HL.out.lett HL.out.err (by decide)).mono ?_
 rintro e w1 ⟨hk1, he⟩
 rw [show parseOf (⟨#[52, 46, 55, 107]⟩ : ByteArray).data.toList = (47, 2, 0) by decide] at he
 obtain rfl : e = .returned (.tuple #[.agg #[.int .i64 47, .int .i64 2], .int .i64 0]) := he
 have HK1 := hid' hk1
 clear hk1
 go_upto_region 2 with fail
 have hR := Row2.alloc 24 w1 (.int .i64 47) (.int .i64 2)
 have hK2 := HK1.out.alloc (.cells #[.int .i64 47, .int .i64 2] 24)
 generalize w1.alloc (.cells #[.int .i64 47, .int .i64 2] 24) = W2 at hR hK2 ⊢
 obtain ⟨p1, hp1⟩ : ∃ p, p = w1.heap.size := ⟨_, rfl⟩
 rw [← hp1] at hR ⊢
 have HR := hid' hR
 have HK2 := hid' hK2
 obtain ⟨q0, q1, q2, q3⟩ := hR.all
 clear hR hK2 hp1
 go_wp2_with fail
 refine (text_any 47 2 _ (HL.out.lett.kept HK2.out) (HL.out.tab.kept HK2.out)).mono ?_
 rintro e w3 ⟨hk3, ht⟩
 rcases ht with ⟨h, _⟩ | ⟨_, t, ht, rfl⟩
 ·
  exact absurd h (by decide)
 have e1 : textOf 47 2 = [52, 55, 48, 48] := by simp [textOf, below, names, Lib.itoa, Lib.decDigits]
 rw [e1] at ht
 obtain rfl := bytes_eq ht.symm
 have HK3 := hid' hk3
 clear ht e1 hk3 q0 q1 q2 q3
 go_wp2_with fail
 refine (grid_any 25 (-10) _).mono ?_
 rintro e w4 ⟨hk4, hg⟩
 rcases hg with ⟨h, _⟩ | ⟨_, N, D, hs, rfl⟩
 ·
  exact absurd h (by decide)
 obtain ⟨rfl, rfl⟩ := scl_one hs (N' := 5) (D' := 2) ⟨by decide, by decide, by decide⟩
 rw [show F.gridV (F.near 5 2) = 2 by decide, show F.gridE (F.near 5 2) = 0 by decide]
 have HR := hid' (HR.out.kept (HK3.out.trans hk4))
 have HK4 := hid' (HK2.out.trans (HK3.out.trans hk4))
 clear hs hk4
 obtain ⟨q0, q1, q2, q3⟩ := HR.out.all
 go_wp2_with fail
 refine (Valid_any 47 2 _).mono ?_
 rintro e w5 ⟨hk5, rfl⟩
 rw [show okN 47 2 = true by decide]
 have HK5 := hid' (HK4.out.trans hk5)
 clear hk5 q0 q1 q2 q3
 go_wp2_with fail
 refine (Valid_any 10 0 _).mono ?_
 rintro e w6 ⟨hk6, rfl⟩
 rw [show okN 10 0 = false by decide]
 have HK6 := hid' (HK5.out.trans hk6)
 clear hk6
 go_wp2
 go_ret
 exact ⟨HK6.out, rfl⟩
end Q
end Go.Proofs.YtboliplhgpndpaaGreatDoor

namespace Go.Proofs.YtboliplhgpndpaaGreatDoor
open Go.RowKit
namespace Q
def isdI (z : Int) : Bool := decide (48 ≤ z ∧ z ≤ 57)
theorem isdI_yes {z : Int} (h1 : 48 ≤ z) (h2 : z ≤ 57) : isdI z = true := decide_eq_true ⟨h1, h2⟩
theorem isdI_no {c : UInt8} (h : ¬ (48 ≤ c.toNat ∧ c.toNat ≤ 57)) : isdI (c.toNat : Int) = false := decide_eq_false (by omega)
set_option maxHeartbeats 2000000 in
theorem isDigit_any (z : Int) (w : World) : Calls Tryz.prog 27 #[.int .u8 z] w fun e w' => Kept w w' ∧ e = .returned (.bool (isdI z)) := by
 go_enter Tryz.func27, Tryz.ntmps27
 go_wp2
 all_goals
  go_ret
  refine ⟨Kept.refl w, congrArg (fun b => Ending.returned (Value.bool b)) ?_⟩
  unfold isdI
  simp_all
  try omega
theorem part_none' (s : ByteArray) (f : Nat) : (s.data.toList.take f).drop f = [] := by
 apply List.drop_eq_nil_of_le; rw [List.length_take]; omega
theorem part_succ' (s : ByteArray) (f i : Nat) (hf : f ≤ i) (hi : i < s.size) : (s.data.toList.take (i + 1)).drop f = (s.data.toList.take i).drop f ++ [s[i]] := by
 have hl : s.data.toList.length = s.size := by rw [Array.length_toList]; rfl
 rw [List.take_succ_eq_append_getElem (by rw [hl]; exact hi), List.drop_append_of_le_length (by rw [List.length_take, hl]; omega)]
 rfl
theorem mem_drop' (s : ByteArray) (f i : Nat) (hf : f ≤ i) (hi : i < s.size) : s[i] ∈ s.data.toList.drop f := by
 have hl : s.data.toList.length = s.size := by rw [Array.length_toList]; rfl
 rw [List.mem_iff_getElem?]
 refine ⟨i - f, ?_⟩
 rw [List.getElem?_drop, show f + (i - f) = i by omega, list_at s i hi]
theorem hd_at (s : ByteArray) (c : UInt8) (h : 0 < s.size) : hd c s.data.toList = decide (s[0].toNat = c.toNat) := by
 unfold hd
 rw [List.head?_eq_getElem?, list_at s 0 h]
 by_cases e : s[0] = c
 ·
  simp [e]
 ·
  have : ¬ s[0].toNat = c.toNat := fun h => e (UInt8.toNat_inj.1 h)
  simp [e, this]
theorem hd_drop (s : ByteArray) (c : UInt8) (h : 1 < s.size) : hd c (s.data.toList.drop 1) = decide (s[1].toNat = c.toNat) := by
 unfold hd
 rw [List.head?_drop, list_at s 1 h]
 by_cases e : s[1] = c
 ·
  simp [e]
 ·
  have : ¬ s[1].toNat = c.toNat := fun h => e (UInt8.toNat_inj.1 h)
  simp [e, this]
theorem idxC (k : Nat) (h : k < 10) : ∃ nm, names[k]? = some (nm, 3 * (k : Int) - 15) ∧ (#[.string ⟨#[102]⟩, .string ⟨#[112]⟩, .string ⟨#[110]⟩, .string ⟨#[117]⟩, .string ⟨#[109]⟩, .string ⟨#[]⟩, .string ⟨#[107]⟩, .string ⟨#[109, 101, 103]⟩, .string ⟨#[103]⟩, .string ⟨#[116]⟩] : Array Value)[k]? = some (.string ⟨nm.toArray⟩) := by
 match k, h with
 | 0, _ => exact ⟨_, rfl, rfl⟩
 | 1, _ => exact ⟨_, rfl, rfl⟩
 | 2, _ => exact ⟨_, rfl, rfl⟩
 | 3, _ => exact ⟨_, rfl, rfl⟩
 | 4, _ => exact ⟨_, rfl, rfl⟩
 | 5, _ => exact ⟨_, rfl, rfl⟩
 | 6, _ => exact ⟨_, rfl, rfl⟩
 | 7, _ => exact ⟨_, rfl, rfl⟩
 | 8, _ => exact ⟨_, rfl, rfl⟩
 | 9, _ => exact ⟨_, rfl, rfl⟩
set_option maxRecDepth 100000 in
set_option maxHeartbeats 16000000 in
theorem tail_any (s : ByteArray) (w : World) (hs : s.size ≤ 32) :
  Calls Tryz.prog 30 #[.string s] w fun e w' => Kept w w' ∧ PowIs e (powOf s.data.toList) := by
 go_enter Tryz.func30, Tryz.ntmps30
 go_upto_region 2 with fail
 have hK := (Kept.refl w).alloc (.cells #[.string ⟨#[102]⟩, .string ⟨#[112]⟩, .string ⟨#[110]⟩, .string ⟨#[117]⟩, .string ⟨#[109]⟩, .string ⟨#[]⟩, .string ⟨#[107]⟩, .string ⟨#[109, 101, 103]⟩, .string ⟨#[103]⟩, .string ⟨#[116]⟩] 9)
 have hC : ∀ k, (w.alloc (.cells #[.string ⟨#[102]⟩, .string ⟨#[112]⟩, .string ⟨#[110]⟩, .string ⟨#[117]⟩, .string ⟨#[109]⟩, .string ⟨#[]⟩, .string ⟨#[107]⟩, .string ⟨#[109, 101, 103]⟩, .string ⟨#[103]⟩, .string ⟨#[116]⟩] 9)).cell? ⟨w.heap.size, k, none⟩ = (#[.string ⟨#[102]⟩, .string ⟨#[112]⟩, .string ⟨#[110]⟩, .string ⟨#[117]⟩, .string ⟨#[109]⟩, .string ⟨#[]⟩, .string ⟨#[107]⟩, .string ⟨#[109, 101, 103]⟩, .string ⟨#[103]⟩, .string ⟨#[116]⟩] : Array Value)[k]? := fun k => World.cell?_alloc_at _ _ _ _ rfl
 generalize w.alloc (.cells #[.string ⟨#[102]⟩, .string ⟨#[112]⟩, .string ⟨#[110]⟩, .string ⟨#[117]⟩, .string ⟨#[109]⟩, .string ⟨#[]⟩, .string ⟨#[107]⟩, .string ⟨#[109, 101, 103]⟩, .string ⟨#[103]⟩, .string ⟨#[116]⟩] 9) = W at hK hC ⊢
 obtain ⟨p4, hp4⟩ : ∃ p, p = w.heap.size := ⟨_, rfl⟩
 rw [← hp4] at hC ⊢
 have HK0 := hid' hK
 have HC := hid' hC
 clear hp4 hK hC
 go_wp2_with fail
 go_loopw [5] (fun vi wr => ∃ k : Nat, k ≤ 10 ∧ vi = .int .i64 (k : Int) ∧ Hid (Kept W wr ∧ ∀ p ∈ names.take k, ¬ p.1 = s.data.toList)) (fun vi _ => 10 - (intOf vi).toNat)
 case atStart => exact ⟨0, Nat.zero_le _, rfl, Kept.refl _, fun p hp => by simp at hp⟩
 case round =>
  obtain ⟨k, hk, rfl, HI⟩ := hrel
  by_cases hlt : k < 10
  ·
   obtain ⟨nm, hnm, hcv⟩ := idxC k hlt
   have hlt' : (k : Int) < 10 := by omega
   have hk0 : (0 : Int) ≤ (k : Int) := by omega
   have HN := hid' hnm
   have hc := cell_kept HI.out.1 ((HC.out k).trans hcv)
   have hw1 : IntKind.i64.wrap (3 * (k : Int)) = 3 * (k : Int) := wrap_i64' (by omega) (by omega)
   have hw2 : IntKind.i64.wrap (3 * (k : Int) - 15) = 3 * (k : Int) - 15 := wrap_i64' (by omega) (by omega)
   clear hnm hcv
   by_cases he : nm = s.data.toList
   ·
    have hs' : (s.toList == nm) = true := by rw [Go.ByteArray.toList_eq, he]; simp
    have HE := hid' he
    clear he
    go_wp2_with fail
    go_ret2
    exact ⟨HK0.out.trans HI.out.1, .inr ⟨_, by unfold powOf; rw [lett_yes HN.out HE.out HI.out.2], rfl, by omega, by omega⟩⟩
   ·
    have hs' : (s.toList == nm) = false := by rw [Go.ByteArray.toList_eq]; simpa using fun h => he h.symm
    have HE := hid' he
    clear he
    go_wp2_with fail
    go_roundw
    case rel => exact ⟨k + 1, by omega, by go_num, HI.out.1, take_next HN.out HI.out.2 HE.out⟩
    case measure => show 10 - ((k : Int) + 1).toNat < 10 - (k : Int).toNat; omega
  ·
   obtain rfl : k = 10 := by omega
   have hno := lett_no (L := s.data.toList) (fun p hp => HI.out.2 p (by simpa [names] using hp))
   have HN := hid' hno
   have hne : s.data.toList ≠ [] := fun e => by rw [e] at hno; cases hno
   obtain ⟨KW⟩ : PLift (Kept W wr) := ⟨HI.out.1⟩
   have HK := hid' (HK0.out.trans KW)
   have hsz : 0 < s.size := by
    rcases Nat.eq_zero_or_pos s.size with h | h
    ·
     exact absurd (List.eq_nil_of_length_eq_zero (by rw [Array.length_toList]; exact h)) hne
    ·
     exact h
   clear hno hne
   have hh : hd 101 s.data.toList = decide (s[0].toNat = 101) := hd_at s 101 hsz
   by_cases h101 : s[0].toNat = 101
   ·
    have hb : ((s[0].toNat : Int) == 101) = true := by simp [h101]
    have hh1 : hd 101 s.data.toList = true := by rw [hh]; exact decide_eq_true h101
    have hcutE : cutB 101 s.data.toList = s.data.toList.drop 1 := by unfold cutB; rw [if_pos hh1, List.drop_one]
    clear h101 hh
    by_cases hs1 : 1 < s.size
    ·
     have hs1' : (1 : Int) < (s.size : Int) := by omega
     have hd1 : hd 45 (s.data.toList.drop 1) = decide (s[1].toNat = 45) := hd_drop s 45 hs1
     have hd2 : hd 43 (s.data.toList.drop 1) = decide (s[1].toNat = 43) := hd_drop s 43 hs1
     by_cases h45 : s[1].toNat = 45
     ·
      have hm : ((s[1].toNat : Int) == 45) = true := by simp [h45]
      have hp : ((s[1].toNat : Int) == 43) = false := by simp [h45]
      have HE : Hid (behindE s.data.toList = s.data.toList.drop 2 ∧ hd 45 (cutB 101 s.data.toList) = true ∧ hd 101 s.data.toList = true) := by
       refine ⟨?_, ?_, hh1⟩
       ·
        unfold behindE; rw [hcutE, hd1, decide_eq_true h45, if_pos rfl]
        unfold cutB; rw [hd1, decide_eq_true h45, if_pos rfl, List.tail_drop]
       ·
        rw [hcutE, hd1, decide_eq_true h45]
      clear h45 hd1 hd2 hcutE hh1
      have hlen : (s.data.toList.drop 2).length = s.size - 2 := by rw [List.length_drop, Array.length_toList]; rfl
      by_cases hl1 : s.size - 2 = 1 ∨ s.size - 2 = 2
      rotate_left
      ·
       have HNO := hid' (pow_no HN.out (fun hh => hl1 (by
        have e1 := congrArg List.length (dgs_rst (behindE s.data.toList))
        rw [hh.2.1, List.append_nil, HE.out.1, hlen] at e1
        have e2 := hh.2.2.1; have e3 := hh.2.2.2
        rw [HE.out.1] at e2 e3
        omega)))
       have hc1 : (s.size : Int) - 2 < 1 ∨ 2 < (s.size : Int) - 2 := by omega
       clear hl1
       rcases hc1 with hc1 | hc1
       ·
        have hw : IntKind.i64.wrap ((s.size : Int) - 2) = (s.size : Int) - 2 := wrap_i64' (by omega) (by omega)
        go_wp2_with fail
        all_goals
         go_ret2
         exact ⟨HK.out, .inl ⟨HNO.out, rfl⟩⟩
       ·
        have hw : IntKind.i64.wrap ((s.size : Int) - 2) = (s.size : Int) - 2 := wrap_i64' (by omega) (by omega)
        go_wp2_with fail
        all_goals
         go_ret2
         exact ⟨HK.out, .inl ⟨HNO.out, rfl⟩⟩
      have hw : IntKind.i64.wrap ((s.size : Int) - 2) = (s.size : Int) - 2 := wrap_i64' (by omega) (by omega)
      have hc1 : ¬ (s.size : Int) - 2 < 1 := by omega
      have hc2 : ¬ 2 < (s.size : Int) - 2 := by omega
      go_wp2_with fail
      all_goals first | (exfalso; omega) | skip
      go_loopw [6, 8] (fun vi vv wr => ∃ (j v : Nat), 2 ≤ j ∧ j ≤ s.size ∧ vi = .int .i64 (j : Int) ∧ vv = .int .i64 (v : Int) ∧ v ≤ 99 ∧ Hid (Kept W wr ∧ Dig ((s.data.toList.take j).drop 2) ∧ v = dv ((s.data.toList.take j).drop 2))) (fun vi _ _ => s.size - (intOf vi).toNat)
      case atStart => exact ⟨2, 0, Nat.le_refl _, by omega, rfl, rfl, by omega, KW, by rw [part_none']; exact fun c hc => by simp at hc, by rw [part_none']; rfl⟩
      case round =>
       obtain ⟨j, v, hj0, hj1, rfl, rfl, hv, HI⟩ := hrel
       by_cases hlt : j < s.size
       ·
        have hji : (j : Int) < (s.size : Int) := by omega
        by_cases hd : 48 ≤ s[j].toNat ∧ s[j].toNat ≤ 57
        ·
         have hd1 : (48 : Int) ≤ (s[j].toNat : Int) := by omega
         have hd2 : (s[j].toNat : Int) ≤ 57 := by omega
         have hw1 : IntKind.u8.wrap ((s[j].toNat : Int) - 48) = (s[j].toNat : Int) - 48 := by rw [IntKind.wrap_u8]; omega
         have hw2 : IntKind.i64.wrap ((s[j].toNat : Int) - 48) = (s[j].toNat : Int) - 48 := wrap_i64' (by omega) (by omega)
         have hD' : Dig ((s.data.toList.take (j + 1)).drop 2) := by
          rw [part_succ' s 2 j hj0 hlt]
          exact HI.out.2.1.append (fun c hc => by rw [List.mem_singleton] at hc; subst hc; exact hd)
         have hv' : dv ((s.data.toList.take (j + 1)).drop 2) = v * 10 + (s[j].toNat - 48) := by rw [part_succ' s 2 j hj0 hlt, dv_snoc, HI.out.2.2]
         have hv9 : v * 10 + (s[j].toNat - 48) ≤ 99 := by
          rw [← hv']
          refine dv_two hD' ?_
          rw [List.length_drop, List.length_take, Array.length_toList]
          have e : s.data.size = s.size := rfl
          omega
         have HD := hid' (And.intro hD' hv')
         have hw3 : IntKind.i64.wrap (10 * (v : Int)) = 10 * (v : Int) := wrap_i64' (by omega) (by omega)
         have hw4 : IntKind.i64.wrap (10 * (v : Int) + ((s[j].toNat : Int) - 48)) = 10 * (v : Int) + ((s[j].toNat : Int) - 48) := wrap_i64' (by omega) (by omega)
         clear hd hD' hv'
         go_wp2_with (first | (go_at_call 27; refine (isDigit_any _ _).mono ?_; rintro e w9 ⟨hk9, rfl⟩; rw [isdI_yes hd1 hd2]))
         go_roundw
         case rel => exact ⟨j + 1, v * 10 + (s[j].toNat - 48), by omega, by omega, by go_num, by congr 1; omega, hv9, HI.out.1.trans hk9, HD.out.1, HD.out.2.symm⟩
         case measure => show s.size - ((j : Int) + 1).toNat < s.size - (j : Int).toNat; omega
        ·
         have HNO := hid' (pow_no HN.out (fun hh => hd (by
          have e1 := dgs_rst (behindE s.data.toList)
          rw [hh.2.1, List.append_nil, HE.out.1] at e1
          have := dgs_dig (s.data.toList.drop 2)
          rw [e1] at this
          exact this s[j] (mem_drop' s 2 j hj0 hlt))))
         have hf := isdI_no hd
         clear hd
         go_wp2_with (first | (go_at_call 27; refine (isDigit_any _ _).mono ?_; rintro e w9 ⟨hk9, rfl⟩; rw [hf]))
         go_ret2
         exact ⟨(HK0.out.trans HI.out.1).trans hk9, .inl ⟨HNO.out, rfl⟩⟩
       ·
        obtain rfl : j = s.size := by omega
        have hji : ¬ ((s.size : Int)) < (s.size : Int) := by omega
        have e0 : (s.data.toList.take s.size).drop 2 = behindE s.data.toList := by rw [List.take_of_length_le (by rw [Array.length_toList]; exact Nat.le_refl _), HE.out.1]
        have hDD : Dig (behindE s.data.toList) := by rw [← e0]; exact HI.out.2.1
        have hcut := cut_at (T := []) hDD (fun c hc => by simp at hc)
        rw [List.append_nil] at hcut
        have hlen : (s.data.toList.drop 2).length = s.size - 2 := by rw [List.length_drop, Array.length_toList]; rfl
        have HY := hid' (pow_yes HN.out ⟨HE.out.2.2, hcut.2, by rw [hcut.1, HE.out.1, hlen]; omega, by rw [hcut.1, HE.out.1, hlen]; omega⟩)
        have HV : Hid (v = dv (dgs (behindE s.data.toList))) := by show _ = _; rw [hcut.1, ← e0]; exact HI.out.2.2
        have hw5 : IntKind.i64.wrap (-1 * (v : Int)) = -1 * (v : Int) := wrap_i64' (by omega) (by omega)
        clear hDD hcut e0
        go_wp2_with fail
        go_ret2
        refine ⟨HK0.out.trans HI.out.1, .inr ⟨_, HY.out, ?_, ?_, ?_⟩⟩
        ·
         rw [HE.out.2.1, ← HV.out]
         simp
        ·
         rw [HE.out.2.1, ← HV.out]; simp <;> omega
        ·
         rw [HE.out.2.1, ← HV.out]; simp <;> omega
     ·
      have hm : ((s[1].toNat : Int) == 45) = false := by simpa using fun h => h45 (by omega)
      by_cases h43 : s[1].toNat = 43
      ·
       have hp : ((s[1].toNat : Int) == 43) = true := by simp [h43]
       have HE : Hid (behindE s.data.toList = s.data.toList.drop 2 ∧ hd 45 (cutB 101 s.data.toList) = false ∧ hd 101 s.data.toList = true) := by
        refine ⟨?_, ?_, hh1⟩
        ·
         unfold behindE; rw [hcutE, hd1, decide_eq_false h45, if_neg (by decide)]
         unfold cutB; rw [hd2, decide_eq_true h43, if_pos rfl, List.tail_drop]
        ·
         rw [hcutE, hd1, decide_eq_false h45]
       clear h45 h43 hd1 hd2 hcutE hh1
       have hlen : (s.data.toList.drop 2).length = s.size - 2 := by rw [List.length_drop, Array.length_toList]; rfl
       by_cases hl1 : s.size - 2 = 1 ∨ s.size - 2 = 2
       rotate_left
       ·
        have HNO := hid' (pow_no HN.out (fun hh => hl1 (by
         have e1 := congrArg List.length (dgs_rst (behindE s.data.toList))
         rw [hh.2.1, List.append_nil, HE.out.1, hlen] at e1
         have e2 := hh.2.2.1; have e3 := hh.2.2.2
         rw [HE.out.1] at e2 e3
         omega)))
        have hc1 : (s.size : Int) - 2 < 1 ∨ 2 < (s.size : Int) - 2 := by omega
        clear hl1
        rcases hc1 with hc1 | hc1
        ·
         have hw : IntKind.i64.wrap ((s.size : Int) - 2) = (s.size : Int) - 2 := wrap_i64' (by omega) (by omega)
         go_wp2_with fail
         all_goals
          go_ret2
          exact ⟨HK.out, .inl ⟨HNO.out, rfl⟩⟩
        ·
         have hw : IntKind.i64.wrap ((s.size : Int) - 2) = (s.size : Int) - 2 := wrap_i64' (by omega) (by omega)
         go_wp2_with fail
         all_goals
          go_ret2
          exact ⟨HK.out, .inl ⟨HNO.out, rfl⟩⟩
       have hw : IntKind.i64.wrap ((s.size : Int) - 2) = (s.size : Int) - 2 := wrap_i64' (by omega) (by omega)
       have hc1 : ¬ (s.size : Int) - 2 < 1 := by omega
       have hc2 : ¬ 2 < (s.size : Int) - 2 := by omega
       go_wp2_with fail
       all_goals first | (exfalso; omega) | skip
       go_loopw [6, 8] (fun vi vv wr => ∃ (j v : Nat), 2 ≤ j ∧ j ≤ s.size ∧ vi = .int .i64 (j : Int) ∧ vv = .int .i64 (v : Int) ∧ v ≤ 99 ∧ Hid (Kept W wr ∧ Dig ((s.data.toList.take j).drop 2) ∧ v = dv ((s.data.toList.take j).drop 2))) (fun vi _ _ => s.size - (intOf vi).toNat)
       case atStart => exact ⟨2, 0, Nat.le_refl _, by omega, rfl, rfl, by omega, KW, by rw [part_none']; exact fun c hc => by simp at hc, by rw [part_none']; rfl⟩
       case round =>
        obtain ⟨j, v, hj0, hj1, rfl, rfl, hv, HI⟩ := hrel
        by_cases hlt : j < s.size
        ·
         have hji : (j : Int) < (s.size : Int) := by omega
         by_cases hd : 48 ≤ s[j].toNat ∧ s[j].toNat ≤ 57
         ·
          have hd1 : (48 : Int) ≤ (s[j].toNat : Int) := by omega
          have hd2 : (s[j].toNat : Int) ≤ 57 := by omega
          have hw1 : IntKind.u8.wrap ((s[j].toNat : Int) - 48) = (s[j].toNat : Int) - 48 := by rw [IntKind.wrap_u8]; omega
          have hw2 : IntKind.i64.wrap ((s[j].toNat : Int) - 48) = (s[j].toNat : Int) - 48 := wrap_i64' (by omega) (by omega)
          have hD' : Dig ((s.data.toList.take (j + 1)).drop 2) := by
           rw [part_succ' s 2 j hj0 hlt]
           exact HI.out.2.1.append (fun c hc => by rw [List.mem_singleton] at hc; subst hc; exact hd)
          have hv' : dv ((s.data.toList.take (j + 1)).drop 2) = v * 10 + (s[j].toNat - 48) := by rw [part_succ' s 2 j hj0 hlt, dv_snoc, HI.out.2.2]
          have hv9 : v * 10 + (s[j].toNat - 48) ≤ 99 := by
           rw [← hv']
           refine dv_two hD' ?_
           rw [List.length_drop, List.length_take, Array.length_toList]
           have e : s.data.size = s.size := rfl
           omega
          have HD := hid' (And.intro hD' hv')
          have hw3 : IntKind.i64.wrap (10 * (v : Int)) = 10 * (v : Int) := wrap_i64' (by omega) (by omega)
          have hw4 : IntKind.i64.wrap (10 * (v : Int) + ((s[j].toNat : Int) - 48)) = 10 * (v : Int) + ((s[j].toNat : Int) - 48) := wrap_i64' (by omega) (by omega)
          clear hd hD' hv'
          go_wp2_with (first | (go_at_call 27; refine (isDigit_any _ _).mono ?_; rintro e w9 ⟨hk9, rfl⟩; rw [isdI_yes hd1 hd2]))
          go_roundw
          case rel => exact ⟨j + 1, v * 10 + (s[j].toNat - 48), by omega, by omega, by go_num, by congr 1; omega, hv9, HI.out.1.trans hk9, HD.out.1, HD.out.2.symm⟩
          case measure => show s.size - ((j : Int) + 1).toNat < s.size - (j : Int).toNat; omega
         ·
          have HNO := hid' (pow_no HN.out (fun hh => hd (by
           have e1 := dgs_rst (behindE s.data.toList)
           rw [hh.2.1, List.append_nil, HE.out.1] at e1
           have := dgs_dig (s.data.toList.drop 2)
           rw [e1] at this
           exact this s[j] (mem_drop' s 2 j hj0 hlt))))
          have hf := isdI_no hd
          clear hd
          go_wp2_with (first | (go_at_call 27; refine (isDigit_any _ _).mono ?_; rintro e w9 ⟨hk9, rfl⟩; rw [hf]))
          go_ret2
          exact ⟨(HK0.out.trans HI.out.1).trans hk9, .inl ⟨HNO.out, rfl⟩⟩
        ·
         obtain rfl : j = s.size := by omega
         have hji : ¬ ((s.size : Int)) < (s.size : Int) := by omega
         have e0 : (s.data.toList.take s.size).drop 2 = behindE s.data.toList := by rw [List.take_of_length_le (by rw [Array.length_toList]; exact Nat.le_refl _), HE.out.1]
         have hDD : Dig (behindE s.data.toList) := by rw [← e0]; exact HI.out.2.1
         have hcut := cut_at (T := []) hDD (fun c hc => by simp at hc)
         rw [List.append_nil] at hcut
         have hlen : (s.data.toList.drop 2).length = s.size - 2 := by rw [List.length_drop, Array.length_toList]; rfl
         have HY := hid' (pow_yes HN.out ⟨HE.out.2.2, hcut.2, by rw [hcut.1, HE.out.1, hlen]; omega, by rw [hcut.1, HE.out.1, hlen]; omega⟩)
         have HV : Hid (v = dv (dgs (behindE s.data.toList))) := by show _ = _; rw [hcut.1, ← e0]; exact HI.out.2.2
         have hw5 : IntKind.i64.wrap (1 * (v : Int)) = 1 * (v : Int) := wrap_i64' (by omega) (by omega)
         clear hDD hcut e0
         go_wp2_with fail
         go_ret2
         refine ⟨HK0.out.trans HI.out.1, .inr ⟨_, HY.out, ?_, ?_, ?_⟩⟩
         ·
          rw [HE.out.2.1, ← HV.out]
          simp
         ·
          rw [HE.out.2.1, ← HV.out]; simp <;> omega
         ·
          rw [HE.out.2.1, ← HV.out]; simp <;> omega
      ·
       have hp : ((s[1].toNat : Int) == 43) = false := by simpa using fun h => h43 (by omega)
       have HE : Hid (behindE s.data.toList = s.data.toList.drop 1 ∧ hd 45 (cutB 101 s.data.toList) = false ∧ hd 101 s.data.toList = true) := by
        refine ⟨?_, ?_, hh1⟩
        ·
         unfold behindE; rw [hcutE, hd1, decide_eq_false h45, if_neg (by decide)]
         unfold cutB; rw [hd2, decide_eq_false h43, if_neg (by decide)]
        ·
         rw [hcutE, hd1, decide_eq_false h45]
       clear h45 h43 hd1 hd2 hcutE hh1
       have hlen : (s.data.toList.drop 1).length = s.size - 1 := by rw [List.length_drop, Array.length_toList]; rfl
       by_cases hl1 : s.size - 1 = 1 ∨ s.size - 1 = 2
       rotate_left
       ·
        have HNO := hid' (pow_no HN.out (fun hh => hl1 (by
         have e1 := congrArg List.length (dgs_rst (behindE s.data.toList))
         rw [hh.2.1, List.append_nil, HE.out.1, hlen] at e1
         have e2 := hh.2.2.1; have e3 := hh.2.2.2
         rw [HE.out.1] at e2 e3
         omega)))
        have hc1 : (s.size : Int) - 1 < 1 ∨ 2 < (s.size : Int) - 1 := by omega
        clear hl1
        rcases hc1 with hc1 | hc1
        ·
         have hw : IntKind.i64.wrap ((s.size : Int) - 1) = (s.size : Int) - 1 := wrap_i64' (by omega) (by omega)
         go_wp2_with fail
         all_goals
          go_ret2
          exact ⟨HK.out, .inl ⟨HNO.out, rfl⟩⟩
        ·
         have hw : IntKind.i64.wrap ((s.size : Int) - 1) = (s.size : Int) - 1 := wrap_i64' (by omega) (by omega)
         go_wp2_with fail
         all_goals
          go_ret2
          exact ⟨HK.out, .inl ⟨HNO.out, rfl⟩⟩
       have hw : IntKind.i64.wrap ((s.size : Int) - 1) = (s.size : Int) - 1 := wrap_i64' (by omega) (by omega)
       have hc1 : ¬ (s.size : Int) - 1 < 1 := by omega
       have hc2 : ¬ 2 < (s.size : Int) - 1 := by omega
       go_wp2_with fail
       all_goals first | (exfalso; omega) | skip
       go_loopw [6, 8] (fun vi vv wr => ∃ (j v : Nat), 1 ≤ j ∧ j ≤ s.size ∧ vi = .int .i64 (j : Int) ∧ vv = .int .i64 (v : Int) ∧ v ≤ 99 ∧ Hid (Kept W wr ∧ Dig ((s.data.toList.take j).drop 1) ∧ v = dv ((s.data.toList.take j).drop 1))) (fun vi _ _ => s.size - (intOf vi).toNat)
       case atStart => exact ⟨1, 0, Nat.le_refl _, by omega, rfl, rfl, by omega, KW, by rw [part_none']; exact fun c hc => by simp at hc, by rw [part_none']; rfl⟩
       case round =>
        obtain ⟨j, v, hj0, hj1, rfl, rfl, hv, HI⟩ := hrel
        by_cases hlt : j < s.size
        ·
         have hji : (j : Int) < (s.size : Int) := by omega
         by_cases hd : 48 ≤ s[j].toNat ∧ s[j].toNat ≤ 57
         ·
          have hd1 : (48 : Int) ≤ (s[j].toNat : Int) := by omega
          have hd2 : (s[j].toNat : Int) ≤ 57 := by omega
          have hw1 : IntKind.u8.wrap ((s[j].toNat : Int) - 48) = (s[j].toNat : Int) - 48 := by rw [IntKind.wrap_u8]; omega
          have hw2 : IntKind.i64.wrap ((s[j].toNat : Int) - 48) = (s[j].toNat : Int) - 48 := wrap_i64' (by omega) (by omega)
          have hD' : Dig ((s.data.toList.take (j + 1)).drop 1) := by
           rw [part_succ' s 1 j hj0 hlt]
           exact HI.out.2.1.append (fun c hc => by rw [List.mem_singleton] at hc; subst hc; exact hd)
          have hv' : dv ((s.data.toList.take (j + 1)).drop 1) = v * 10 + (s[j].toNat - 48) := by rw [part_succ' s 1 j hj0 hlt, dv_snoc, HI.out.2.2]
          have hv9 : v * 10 + (s[j].toNat - 48) ≤ 99 := by
           rw [← hv']
           refine dv_two hD' ?_
           rw [List.length_drop, List.length_take, Array.length_toList]
           have e : s.data.size = s.size := rfl
           omega
          have HD := hid' (And.intro hD' hv')
          have hw3 : IntKind.i64.wrap (10 * (v : Int)) = 10 * (v : Int) := wrap_i64' (by omega) (by omega)
          have hw4 : IntKind.i64.wrap (10 * (v : Int) + ((s[j].toNat : Int) - 48)) = 10 * (v : Int) + ((s[j].toNat : Int) - 48) := wrap_i64' (by omega) (by omega)
          clear hd hD' hv'
          go_wp2_with (first | (go_at_call 27; refine (isDigit_any _ _).mono ?_; rintro e w9 ⟨hk9, rfl⟩; rw [isdI_yes hd1 hd2]))
          go_roundw
          case rel => exact ⟨j + 1, v * 10 + (s[j].toNat - 48), by omega, by omega, by go_num, by congr 1; omega, hv9, HI.out.1.trans hk9, HD.out.1, HD.out.2.symm⟩
          case measure => show s.size - ((j : Int) + 1).toNat < s.size - (j : Int).toNat; omega
         ·
          have HNO := hid' (pow_no HN.out (fun hh => hd (by
           have e1 := dgs_rst (behindE s.data.toList)
           rw [hh.2.1, List.append_nil, HE.out.1] at e1
           have := dgs_dig (s.data.toList.drop 1)
           rw [e1] at this
           exact this s[j] (mem_drop' s 1 j hj0 hlt))))
          have hf := isdI_no hd
          clear hd
          go_wp2_with (first | (go_at_call 27; refine (isDigit_any _ _).mono ?_; rintro e w9 ⟨hk9, rfl⟩; rw [hf]))
          go_ret2
          exact ⟨(HK0.out.trans HI.out.1).trans hk9, .inl ⟨HNO.out, rfl⟩⟩
        ·
         obtain rfl : j = s.size := by omega
         have hji : ¬ ((s.size : Int)) < (s.size : Int) := by omega
         have e0 : (s.data.toList.take s.size).drop 1 = behindE s.data.toList := by rw [List.take_of_length_le (by rw [Array.length_toList]; exact Nat.le_refl _), HE.out.1]
         have hDD : Dig (behindE s.data.toList) := by rw [← e0]; exact HI.out.2.1
         have hcut := cut_at (T := []) hDD (fun c hc => by simp at hc)
         rw [List.append_nil] at hcut
         have hlen : (s.data.toList.drop 1).length = s.size - 1 := by rw [List.length_drop, Array.length_toList]; rfl
         have HY := hid' (pow_yes HN.out ⟨HE.out.2.2, hcut.2, by rw [hcut.1, HE.out.1, hlen]; omega, by rw [hcut.1, HE.out.1, hlen]; omega⟩)
         have HV : Hid (v = dv (dgs (behindE s.data.toList))) := by show _ = _; rw [hcut.1, ← e0]; exact HI.out.2.2
         have hw5 : IntKind.i64.wrap (1 * (v : Int)) = 1 * (v : Int) := wrap_i64' (by omega) (by omega)
         clear hDD hcut e0
         go_wp2_with fail
         go_ret2
         refine ⟨HK0.out.trans HI.out.1, .inr ⟨_, HY.out, ?_, ?_, ?_⟩⟩
         ·
          rw [HE.out.2.1, ← HV.out]
          simp
         ·
          rw [HE.out.2.1, ← HV.out]; simp <;> omega
         ·
          rw [HE.out.2.1, ← HV.out]; simp <;> omega
    ·
     have hs1' : ¬ (1 : Int) < (s.size : Int) := by omega
     have hnil : s.data.toList.drop 1 = [] := List.drop_eq_nil_of_le (by rw [Array.length_toList]; show s.size ≤ 1; omega)
     have hbe : behindE s.data.toList = [] := by unfold behindE; rw [hcutE, hnil]; rfl
     have HNO := hid' (pow_no HN.out (fun hh => by rw [hbe] at hh; have := hh.2.2.1; simp [dgs] at this))
     obtain hsz1 : s.size = 1 := by omega
     have hi1 : (s.size : Int) = 1 := by omega
     clear hbe hnil hcutE hh1
     go_wp2_with fail
     all_goals
      go_ret2
      exact ⟨HK.out, .inl ⟨HNO.out, rfl⟩⟩
   ·
    have hb : ((s[0].toNat : Int) == 101) = false := by simpa using fun h => h101 (by omega)
    have hh1 : hd 101 s.data.toList = false := by rw [hh]; exact decide_eq_false h101
    have HNO := hid' (pow_no HN.out (fun hh => absurd (hh1.symm.trans hh.1) (by decide)))
    clear h101 hh hh1
    go_wp2_with fail
    go_ret2
    exact ⟨HK.out, .inl ⟨HNO.out, rfl⟩⟩
end Q
end Go.Proofs.YtboliplhgpndpaaGreatDoor

namespace Go.Proofs.YtboliplhgpndpaaGreatDoor
open Go.RowKit
namespace Q
def part (L : List UInt8) (f i : Nat) : List UInt8 := (L.take i).drop f
theorem part_app (L : List UInt8) (f i : Nat) (hf : f ≤ i) : L.drop f = part L f i ++ L.drop i := by
 unfold part
 have h := List.take_append_drop i L
 conv => lhs; rw [← h]
 rcases Nat.lt_or_ge L.length i with hl | hl
 ·
  rw [List.take_of_length_le (by omega), List.drop_eq_nil_of_le (show L.length ≤ i by omega), List.append_nil, List.append_nil]
 ·
  rw [List.drop_append_of_le_length (by rw [List.length_take]; omega)]
theorem part_len (L : List UInt8) (f i : Nat) (hi : i ≤ L.length) : (part L f i).length = i - f := by
 unfold part; rw [List.length_drop, List.length_take]; omega
theorem part_self (L : List UInt8) (f : Nat) : part L f f = [] := by
 unfold part; apply List.drop_eq_nil_of_le; rw [List.length_take]; omega
theorem part_next (s : ByteArray) (f i : Nat) (hf : f ≤ i) (hi : i < s.size) : part s.data.toList f (i + 1) = part s.data.toList f i ++ [s[i]] := part_succ' s f i hf hi
def Scan (L : List UInt8) (n : Bool) (i : Nat) (D : List UInt8) (ex : Int) : Prop :=
 Dig D ∧ D ≠ [] ∧ D.length ≤ 32 ∧ (powOf (L.drop i) = none → readOf L = none) ∧ ∀ x, powOf (L.drop i) = some x → readOf L = some (n, D, x + ex)
theorem cut45 {L : List UInt8} {b : Nat} (hb : b = if hd 45 L = true then 1 else 0) : cutB 45 L = L.drop b := by
 unfold cutB
 by_cases h : hd 45 L = true
 ·
  rw [if_pos h] at hb ⊢; subst hb; rw [List.drop_one]
 ·
  rw [if_neg h] at hb ⊢; subst hb; rfl
theorem noDig_head {L : List UInt8} {i : Nat} (h : ∀ c, L[i]? = some c → isd c = false) : ∀ c, (L.drop i).head? = some c → isd c = false := fun c hc => h c (by rw [← hc, List.head?_drop])
theorem scan_plain {L : List UInt8} {b i : Nat} (hb : b = if hd 45 L = true then 1 else 0) (hl : L.length ≤ 32) (hi : i ≤ L.length) (hbi : b < i) (hD : Dig (part L b i)) (h1 : ∀ c, L[i]? = some c → isd c = false) (h2 : hd 46 (L.drop i) = false) : Scan L (hd 45 L) i (part L b i) 0 := by
 have e0 := cut45 hb
 have hc := cut_at hD (noDig_head h1)
 rw [← part_app L b i (by omega), ← e0] at hc
 have hp : pnt L = false := by unfold pnt; rw [hc.2, h2]
 have hbe : beh L = [] := by unfold beh; rw [hp]; rfl
 have ht : tl L = L.drop i := by unfold tl; rw [hp, if_neg (by decide), hc.2, cutB_no h2]
 have hln := part_len L b i hi
 have hne : part L b i ≠ [] := fun e => by rw [e] at hln; simp at hln; omega
 refine ⟨hD, hne, by omega, fun h => read_no1 (by rw [ht]; exact h), fun x h => ?_⟩
 rw [read_yes hl (by rw [ht]; exact h) (by rw [hc.1, hp]; simp [hne]), hc.1, hbe]
 simp
theorem scan_empty {L : List UInt8} {b : Nat} (hb : b = if hd 45 L = true then 1 else 0) (h1 : ∀ c, L[b]? = some c → isd c = false) : readOf L = none := by
 have e0 := cut45 hb
 have hc := cut_at (D := []) (T := L.drop b) (fun c hc => by simp at hc) (noDig_head h1)
 rw [List.nil_append, ← e0] at hc
 exact read_no2 (.inl hc.1)
theorem scan_bare {L : List UInt8} {b q : Nat} (hb : b = if hd 45 L = true then 1 else 0) (hbq : b ≤ q) (hD : Dig (part L b q)) (hq : L[q]? = some 46) (h1 : ∀ c, L[q + 1]? = some c → isd c = false) : readOf L = none := by
 have e0 := cut45 hb
 have hdr : L.drop q = 46 :: L.drop (q + 1) := by
  have hlt : q < L.length := by
   rcases Nat.lt_or_ge q L.length with h | h
   ·
    exact h
   ·
    rw [List.getElem?_eq_none h] at hq; cases hq
  rw [List.drop_eq_getElem_cons hlt]
  rw [List.getElem?_eq_getElem hlt] at hq
  rw [Option.some.inj hq]
 have hc := cut_at hD (T := L.drop q) (fun c hc => by rw [hdr] at hc; simp at hc; subst hc; decide)
 rw [← part_app L b q hbq, ← e0] at hc
 have hp : pnt L = true := by unfold pnt; rw [hc.2, hdr, hd_self]
 have hc2 := cut_at (D := []) (T := L.drop (q + 1)) (fun c hc => by simp at hc) (noDig_head h1)
 rw [List.nil_append] at hc2
 have hbe : beh L = [] := by unfold beh; rw [if_pos hp, hc.2, hdr, cutB_self]; exact hc2.1
 exact read_no2 (.inr ⟨hp, hbe⟩)
theorem scan_point {L : List UInt8} {b q i : Nat} (hb : b = if hd 45 L = true then 1 else 0) (hl : L.length ≤ 32) (hi : i ≤ L.length) (hbq : b < q) (hqi : q + 1 < i) (hD : Dig (part L b q)) (hq : L[q]? = some 46) (hB : Dig (part L (q + 1) i)) (h1 : ∀ c, L[i]? = some c → isd c = false) : Scan L (hd 45 L) i (part L b q ++ part L (q + 1) i) (-((i - (q + 1) : Nat) : Int)) := by
 have e0 := cut45 hb
 have hdr : L.drop q = 46 :: L.drop (q + 1) := by
  have hlt : q < L.length := by omega
  rw [List.drop_eq_getElem_cons hlt]
  rw [List.getElem?_eq_getElem hlt] at hq
  rw [Option.some.inj hq]
 have hc := cut_at hD (T := L.drop q) (fun c hc => by rw [hdr] at hc; simp at hc; subst hc; decide)
 rw [← part_app L b q (by omega), ← e0] at hc
 have hp : pnt L = true := by unfold pnt; rw [hc.2, hdr, hd_self]
 have hc2 := cut_at hB (noDig_head h1)
 rw [← part_app L (q + 1) i (by omega)] at hc2
 have hbe : beh L = part L (q + 1) i := by unfold beh; rw [if_pos hp, hc.2, hdr, cutB_self]; exact hc2.1
 have ht : tl L = L.drop i := by unfold tl; rw [if_pos hp, hc.2, hdr, cutB_self]; exact hc2.2
 have hln := part_len L b q (by omega)
 have hln2 := part_len L (q + 1) i hi
 have hne : part L b q ≠ [] := fun e => by rw [e] at hln; simp at hln; omega
 have hne2 : part L (q + 1) i ≠ [] := fun e => by rw [e] at hln2; simp at hln2; omega
 refine ⟨hD.append hB, by simp [hne], by rw [List.length_append]; omega, fun h => read_no1 (by rw [ht]; exact h), fun x h => ?_⟩
 rw [read_yes hl (by rw [ht]; exact h) (by rw [hc.1, hbe]; simp [hne, hne2]), hc.1, hbe, hln2]
 rfl
theorem dv_zeros (D : List UInt8) (k : Nat) : dv (D ++ List.replicate k 48) = dv D * 10 ^ k := by
 induction k with
 | zero => simp
 | succ k ih => rw [List.replicate_succ', ← List.append_assoc, dv_snoc, ih, Nat.pow_succ, ← Nat.mul_assoc]; rfl
theorem trz_val {D : List UInt8} (h : Dig D) : dv D = dv (trz D) * 10 ^ (D.length - (trz D).length) ∧ (trz D = [] ∧ dv D = 0 ∨ trz D ≠ [] ∧ dv (trz D) % 10 ≠ 0) := by
 obtain ⟨k, e, hh⟩ := trz_spec D
 have hl : D.length = (trz D).length + k := by have := congrArg List.length e; simpa using this
 refine ⟨?_, ?_⟩
 ·
  rw [show D.length - (trz D).length = k by omega, ← dv_zeros, ← e]
 ·
  rcases hh with h0 | ⟨E, c, h1, hc⟩
  ·
   left
   refine ⟨h0, ?_⟩
   rw [h0, List.nil_append] at e
   rw [e, ← List.nil_append (List.replicate k 48), dv_zeros]
   exact Nat.zero_mul _
  ·
   right
   refine ⟨by rw [h1]; simp, ?_⟩
   rw [h1, dv_snoc]
   have hd := h c (by rw [e, h1]; simp)
   have : c.toNat ≠ 48 := fun h => hc (UInt8.toNat_inj.1 h)
   omega
theorem ten_one {c c' z z' : Nat} (h : c * 10 ^ z = c' * 10 ^ z') (hc : c % 10 ≠ 0) (hc' : c' % 10 ≠ 0) : c = c' ∧ z = z' := by
 rcases Nat.lt_trichotomy z z' with h1 | h1 | h1
 ·
  exfalso
  obtain ⟨d, rfl⟩ : ∃ d, z' = z + 1 + d := ⟨z' - z - 1, by omega⟩
  rw [show z + 1 + d = (d + 1) + z by omega, Nat.pow_add, ← Nat.mul_assoc] at h
  have := Nat.eq_of_mul_eq_mul_right (Nat.pow_pos (by decide)) h
  rw [this, Nat.pow_succ, ← Nat.mul_assoc] at hc
  omega
 ·
  subst h1
  exact ⟨Nat.eq_of_mul_eq_mul_right (Nat.pow_pos (by decide)) h, rfl⟩
 ·
  exfalso
  obtain ⟨d, rfl⟩ : ∃ d, z = z' + 1 + d := ⟨z - z' - 1, by omega⟩
  rw [show z' + 1 + d = (d + 1) + z' by omega, Nat.pow_add, ← Nat.mul_assoc] at h
  have := Nat.eq_of_mul_eq_mul_right (Nat.pow_pos (by decide)) h
  rw [← this, Nat.pow_succ, ← Nat.mul_assoc] at hc'
  omega
theorem dig_lt {D : List UInt8} (h : Dig D) : dv D < 10 ^ D.length := by
 revert h
 refine snocInd (p := fun D => Dig D → dv D < 10 ^ D.length) (fun _ => by decide) (fun l c ih h => ?_) D
 have h1 := ih (fun x hx => h x (by simp [hx]))
 have h2 := h c (by simp)
 rw [dv_snoc, List.length_append, List.length_singleton, Nat.pow_succ]
 omega
end Q
end Go.Proofs.YtboliplhgpndpaaGreatDoor
