/- num.Grid; law03's awake. law03's decimal. NumShift's walk. -/
import Derived.Test.YtboliplhgpndpaaGreatDoorNscal
import Derived.Test.YtboliplhgpndpaaGreatDoorGal
import Derived.Test.YtboliplhgpndpaaGreatDoorFround
import Derived.Test.YtboliplhgpndpaaGreatDoorGar
import Derived.Test.YtboliplhgpndpaaGreatDoorNtext
import Derived.Test.YtboliplhgpndpaaGreatDoorGak
namespace Go.Proofs.YtboliplhgpndpaaGreatDoor
open Go.RowKit
namespace Q
theorem okN_bd {m x : Int} (h : okN m x = true) : -999999999 ≤ m ∧ m ≤ 999999999 ∧ -18 ≤ x ∧ x ≤ 9 := by
 rcases okN_iff.1 h with ⟨rfl, rfl⟩ | ⟨_, h1, h2, _, h4, h5⟩
 ·
  decide
 ·
  exact ⟨h1, h2, h4, h5⟩
def Scl (m x N : Int) (D : Nat) : Prop := 0 < D ∧ Nat.Coprime N.natAbs D ∧ N * (10 ^ (-x).toNat : Nat) = m * (10 ^ x.toNat : Nat) * D
def GridIs (e : Ending) (m x : Int) : Prop :=
 (okN m x = false ∧ e = .returned (.tuple #[.int .i64 0, .int .i64 30])) ∨ (okN m x = true ∧ ∃ N D, Scl m (x + 9) N D ∧ e = .returned (.tuple #[.int .i64 (F.gridV (F.near N D)), .int .i64 (F.gridE (F.near N D))]))
set_option maxRecDepth 100000 in
set_option maxHeartbeats 4000000 in
theorem grid_any (m x : Int) (w : World) : Calls Tryz.prog 15 #[.agg #[.int .i64 m, .int .i64 x]] w fun e w' => Kept w w' ∧ GridIs e m x := by
 go_enter Tryz.func15, Tryz.ntmps15
 go_upto_region 1 with fail
 have hK := (Kept.refl w).alloc (.cells #[.int .i64 m, .int .i64 x] 24)
 have hR := Row2.alloc 24 w (.int .i64 m) (.int .i64 x)
 generalize w.alloc (.cells #[.int .i64 m, .int .i64 x] 24) = W at hK hR ⊢
 obtain ⟨p1, hp1⟩ : ∃ p, p = w.heap.size := ⟨_, rfl⟩
 rw [← hp1] at hR ⊢
 have HK := hid' hK
 have HR := hid' hR
 obtain ⟨q0, q1, q2, q3⟩ := hR.all
 clear hp1 hK hR
 go_wp2_with fail
 refine (Valid_any m x _).mono ?_
 rintro e w1 ⟨hk1, rfl⟩
 have HK1 := hid' (HK.out.trans hk1)
 have hR1 := HR.out.kept hk1
 clear hk1 q0 q1 q2 q3
 by_cases ho : okN m x = true
 ·
  have hb := okN_bd ho
  rw [ho]
  have HO := hid' ho
  clear ho
  obtain ⟨q0, q1, q2, q3⟩ := hR1.all
  have hwr : IntKind.i64.wrap (x + 9) = x + 9 := wrap_i64' (by omega) (by omega)
  clear hR1
  go_wp2_with fail
  refine (scaled_any m (x + 9) (by omega) (by omega) (by omega) (by omega) _).mono ?_
  rintro e w2 ⟨hk2, v, N, D, rfl, hq, he⟩
  have HS : Hid (Scl m (x + 9) N D) := ⟨hq.low.1, hq.low.2, he⟩
  obtain ⟨s, ao, ap, k, c, k', c', l, l', rfl, n1, n2, r, rfl, rfl⟩ := hq
  have H2 := hid' (And.intro n1.sl (And.intro n2.sl r))
  have HK2 := hid' (HK1.out.trans hk2)
  clear n1 n2 r he hk2 q0 q1 q2 q3
  go_wp2_with fail
  refine (F.Round_ok s false ao ap k c k' c' l l' _ H2.out.1 H2.out.2.1 H2.out.2.2).mono ?_
  rintro e w3 ⟨rfl, hk3⟩
  have HK3 := hid' (HK2.out.trans hk3)
  clear hk3
  generalize hgv : F.gridV (F.near (M.int s l) (M.val l')) = gv
  generalize hge : F.gridE (F.near (M.int s l) (M.val l')) = ge
  have HG := hid' (And.intro hgv hge)
  clear hgv hge
  go_wp2
  go_ret2
  exact ⟨HK3.out, .inr ⟨HO.out, _, _, HS.out, by rw [HG.out.1, HG.out.2]; rfl⟩⟩
 ·
  have ho : okN m x = false := by simpa using ho
  rw [ho]
  have HO := hid' ho
  clear ho hR1
  go_wp2
  go_ret2
  exact ⟨HK1.out, .inl ⟨HO.out, rfl⟩⟩
theorem scl_one {N N' m x : Int} {D D' : Nat} (h : Scl m x N D) (h' : Scl m x N' D') : N = N' ∧ D = D' := by
 obtain ⟨p, c, e⟩ := h
 obtain ⟨p', c', e'⟩ := h'
 have e3 : N * D' = N' * D := by
  have hz : (0 : Int) < ((10 ^ (-x).toNat : Nat) : Int) := by have := Nat.pow_pos (n := (-x).toNat) (show 0 < 10 by decide); omega
  have hz' : ((10 ^ (-x).toNat : Nat) : Int) ≠ 0 := by omega
  apply Int.eq_of_mul_eq_mul_right hz'
  rw [Int.mul_right_comm, e, Int.mul_right_comm N', e', Int.mul_right_comm]
 have e4 := congrArg Int.natAbs e3
 rw [Int.natAbs_mul, Int.natAbs_mul, Int.natAbs_natCast, Int.natAbs_natCast] at e4
 have d1 : D ∣ D' := (c.symm.dvd_of_dvd_mul_left (by rw [e4]; exact Nat.dvd_mul_left _ _))
 have d2 : D' ∣ D := (c'.symm.dvd_of_dvd_mul_left (by rw [← e4]; exact Nat.dvd_mul_left _ _))
 have ed := Nat.dvd_antisymm d1 d2
 subst ed
 refine ⟨?_, rfl⟩
 have : (D : Int) ≠ 0 := by omega
 exact Int.eq_of_mul_eq_mul_right this e3
structure Lay (w : World) : Prop where
 lett : Lett w
 err : ErrV w
 tab : Tab w
theorem Lay.kept {w w' : World} (h : Lay w) (k : Kept w w') : Lay w' := ⟨h.lett.kept k, h.err.kept k, h.tab.kept k⟩
set_option maxRecDepth 100000 in
set_option maxHeartbeats 8000000 in
theorem awake_any (w : World) (hl : Lay w) : Calls Tryz.prog 8 #[] w fun e w' => Kept w w' ∧ e = .returned (.bool true) := by
 have HL := hid' hl
 clear hl
 go_enter Tryz.func8, Tryz.ntmps8
 go_wp2_with fail
 refine (parse_any ⟨#[52, 46, 55, 107]⟩ _ HL.out.lett HL.out.err (by decide)).mono ?_
 rintro e w1 ⟨hk1, he⟩
 rw [show parseOf (⟨#[52, 46, 55, 107]⟩ : ByteArray).data.toList = (47, 2, 0) by decide] at he
 obtain rfl : e = .returned (.tuple #[.agg #[.int .i64 47, .int .i64 2], .int .i64 0]) := he
 have HK1 := hid' hk1
 clear hk1
 go_upto_region 2 with fail
 have hR := Row2.alloc 24 w1 (.int .i64 47) (.int .i64 2)
 have hK2 := HK1.out.alloc (.cells #[.int .i64 47, .int .i64 2] 24)
 generalize w1.alloc (.cells #[.int .i64 47, .int .i64 2] 24) = W2 at hR hK2 ⊢
 obtain ⟨p1, hp1⟩ : ∃ p, p = w1.heap.size := ⟨_, rfl⟩
 rw [← hp1] at hR ⊢
 have HR := hid' hR
 have HK2 := hid' hK2
 obtain ⟨q0, q1, q2, q3⟩ := hR.all
 clear hR hK2 hp1
 go_wp2_with fail
 refine (text_any 47 2 _ (HL.out.lett.kept HK2.out) (HL.out.tab.kept HK2.out)).mono ?_
 rintro e w3 ⟨hk3, ht⟩
 rcases ht with ⟨h, _⟩ | ⟨_, t, ht, rfl⟩
 ·
  exact absurd h (by decide)
 have e1 : textOf 47 2 = [52, 55, 48, 48] := by simp [textOf, below, names, Lib.itoa, Lib.decDigits]
 rw [e1] at ht
 obtain rfl := bytes_eq ht.symm
 have HK3 := hid' hk3
 clear ht e1 hk3 q0 q1 q2 q3
 go_wp2_with fail
 refine (grid_any 25 (-10) _).mono ?_
 rintro e w4 ⟨hk4, hg⟩
 rcases hg with ⟨h, _⟩ | ⟨_, N, D, hs, rfl⟩
 ·
  exact absurd h (by decide)
 obtain ⟨rfl, rfl⟩ := scl_one hs (N' := 5) (D' := 2) ⟨by decide, by decide, by decide⟩
 rw [show F.gridV (F.near 5 2) = 2 by decide, show F.gridE (F.near 5 2) = 0 by decide]
 have HR := hid' (HR.out.kept (HK3.out.trans hk4))
 have HK4 := hid' (HK2.out.trans (HK3.out.trans hk4))
 clear hs hk4
 obtain ⟨q0, q1, q2, q3⟩ := HR.out.all
 go_wp2_with fail
 refine (Valid_any 47 2 _).mono ?_
 rintro e w5 ⟨hk5, rfl⟩
 rw [show okN 47 2 = true by decide]
 have HK5 := hid' (HK4.out.trans hk5)
 clear hk5 q0 q1 q2 q3
 go_wp2_with fail
 refine (Valid_any 10 0 _).mono ?_
 rintro e w6 ⟨hk6, rfl⟩
 rw [show okN 10 0 = false by decide]
 have HK6 := hid' (HK5.out.trans hk6)
 clear hk6
 go_wp2
 go_ret
 exact ⟨HK6.out, rfl⟩
end Q
end Go.Proofs.YtboliplhgpndpaaGreatDoor

namespace Go.Proofs.YtboliplhgpndpaaGreatDoor
open Go.RowKit
namespace Q
theorem conv_one (w : World) (r : Nat) : (convert 105 9 (.slice (some ⟨w.heap.size, 0, none⟩) 1 1)).run Tryz.prog (w.alloc (Obj.cells #[.int .u8 (48 + (r : Int))] 5)) = .ok (.string ⟨#[UInt8.ofNat (48 + r)]⟩) (w.alloc (Obj.cells #[.int .u8 (48 + (r : Int))] 5)) := by
 have h1 := run_convert_bytes_arg (P := Tryz.prog) (w.alloc (Obj.cells #[.int .u8 (48 + (r : Int))] 5)) 105 5 Tryz.underlying105 Tryz.underlying5 w.heap.size 0 1 1 [48 + (r : Int)] rfl (fun i hi => by
  have : i = 0 := by omega
  subst this
  exact World.cell?_alloc_at _ _ _ _ (by simp)) 9 Tryz.underlying9
 rw [h1]
 have e : (48 + (r : Int)).toNat = 48 + r := by omega
 simp [strOfNums, e]
theorem conv_kept {V W : World} {r : Nat} {d : ByteArray} (hd : d = ⟨#[UInt8.ofNat (48 + r)]⟩) (k : Kept (V.drew.alloc (Obj.cells #[.int .u8 (48 + (r : Int))] 5)) W) : (convert 105 9 (.slice (some ⟨V.heap.size, 0, none⟩) 1 1)).run Tryz.prog W = .ok (.string d) W := by
 have hc : (V.drew.alloc (Obj.cells #[.int .u8 (48 + (r : Int))] 5)).cell? ⟨V.heap.size, 0, none⟩ = some (.int .u8 (48 + (r : Int))) := World.cell?_alloc_at _ _ _ _ (by rfl)
 have h1 := run_convert_bytes_arg (P := Tryz.prog) W 105 5 Tryz.underlying105 Tryz.underlying5 V.heap.size 0 1 1 [48 + (r : Int)] rfl (fun i hi => by
  have : i = 0 := by omega
  subst this
  exact cell_kept k hc) 9 Tryz.underlying9
 rw [h1, hd]
 have e : (48 + (r : Int)).toNat = 48 + r := by omega
 simp [strOfNums, e]
set_option maxRecDepth 100000 in
set_option maxHeartbeats 8000000 in
theorem decimal_any : ∀ (n : Nat), n < 4294967296 → ∀ w, Calls Tryz.prog 23 #[.int .u32 (n : Int)] w fun e w' => Kept w w' ∧ ∃ t : ByteArray, t.data.toList = Lib.decDigits n ∧ e = .returned (.string t) := by
 intro n
 induction n using Nat.strongRecOn with
 | _ n ih =>
  intro hn w
  have HI := hid' ih
  clear ih
  go_enter Tryz.func23, Tryz.ntmps23
  by_cases h : n < 10
  ·
   have h1 : (n : Int) < 10 := by omega
   have hconv := conv_one w n
   obtain ⟨d, hd⟩ : ∃ d : ByteArray, d = ⟨#[UInt8.ofNat (48 + n)]⟩ := ⟨_, rfl⟩
   rw [← hd] at hconv
   have Hd : Hid (d.data.toList = Lib.decDigits n) := by show _ = _; rw [hd, Lib.decDigits, dif_pos h]
   clear hd
   go_wp2_with fail
   go_ret
   exact ⟨(Kept.refl w).alloc _, d, Hd.out, rfl⟩
  ·
   have h1 : ¬ (n : Int) < 10 := by omega
   go_upto_region 3 with fail
   have hw1 : IntKind.u32.wrap ((n : Int) / 10) = ((n / 10 : Nat) : Int) := by rw [IntKind.wrap_u32]; omega
   have hw2 : IntKind.u32.wrap (48 + (n : Int).tmod 10) = 48 + ((n % 10 : Nat) : Int) := by rw [show ((n : Int).tmod 10) = ((n % 10 : Nat) : Int) from rfl, IntKind.wrap_u32]; omega
   have hw3 : IntKind.u8.wrap (48 + ((n % 10 : Nat) : Int)) = 48 + ((n % 10 : Nat) : Int) := by rw [IntKind.wrap_u8]; omega
   obtain ⟨r, hr⟩ : ∃ r, r = n % 10 := ⟨_, rfl⟩
   rw [← hr] at hw2 hw3
   obtain ⟨q, hq⟩ : ∃ q, q = n / 10 := ⟨_, rfl⟩
   rw [← hq] at hw1
   have hconv : ∀ V : World, (convert 105 9 (.slice (some ⟨V.heap.size, 0, none⟩) 1 1)).run Tryz.prog (V.alloc (Obj.cells #[.int .u8 (48 + (r : Int))] 5)) = .ok (.string ⟨#[UInt8.ofNat (48 + r)]⟩) (V.alloc (Obj.cells #[.int .u8 (48 + (r : Int))] 5)) := fun V => conv_one V r
   obtain ⟨d, hd⟩ : ∃ d : ByteArray, d = ⟨#[UInt8.ofNat (48 + r)]⟩ := ⟨_, rfl⟩
   rw [← hd] at hconv
   have HD := hid' hd
   have hconv2 : (convert 105 9 (.slice (some ⟨w.heap.size, 0, none⟩) 1 1)).run Tryz.prog (w.alloc (Obj.cells #[.int .u8 (48 + (r : Int))] 5)).drew = .ok (.string d) (w.alloc (Obj.cells #[.int .u8 (48 + (r : Int))] 5)).drew := conv_kept hd (Kept.refl _)
   have Hd : Hid (d.data.toList = [UInt8.ofNat (48 + n % 10)]) := by show _ = _; rw [hd, hr]
   have hds : d.size = 1 := by rw [size_list Hd.out]; rfl
   have HQ := hid' hq
   clear hd hr hq
   have hIH : Hid (∀ V, Calls Tryz.prog 23 #[.int .u32 (q : Int)] V fun e w' => Kept V w' ∧ ∃ t : ByteArray, (t.data.toList = Lib.decDigits (n / 10) ∧ t.size ≤ 10) ∧ e = .returned (.string t)) := fun V => by
    rw [HQ.out]
    refine (HI.out (n / 10) (by omega) (by omega) V).mono ?_
    rintro e w1 ⟨hk1, t, ht, rfl⟩
    exact ⟨hk1, t, ⟨ht, by rw [size_list ht]; exact dec_len (by decide) (Nat.lt_of_le_of_lt (show n / 10 ≤ 429496729 by omega) (by decide))⟩, rfl⟩
   go_region_with (first
    | (go_at_call 23; refine (hIH.out _).mono ?_; rintro e w1 ⟨hk1, t, ht, rfl⟩; have HT := hid' (And.intro ht.1 hk1); have hts := ht.2; have hA : ¬ 9223372036854775807 < t.size + d.size := (by omega); (try have hcv := conv_kept HD.out hk1); clear ht hk1))
   all_goals
    go_wp2_with fail
    go_ret
    refine ⟨?_, t ++ d, ?_, rfl⟩
    ·
     first
      | exact ((Kept.refl w).drew.trans HT.out.2).alloc _
      | exact ((Kept.refl w).alloc _).drew.trans HT.out.2
      | exact ((Kept.refl w).drew.alloc _).trans HT.out.2
    ·
     rw [ByteArray.data_append, Array.toList_append, HT.out.1, Hd.out, show Lib.decDigits n = Lib.decDigits (n / 10) ++ [UInt8.ofNat (48 + n % 10)] by rw [Lib.decDigits, dif_neg h]]
end Q
end Go.Proofs.YtboliplhgpndpaaGreatDoor

namespace Go.Proofs.YtboliplhgpndpaaGreatDoor
open Go.RowKit
namespace Q
def nmC : Array Value := #[.string ⟨#[102]⟩, .string ⟨#[112]⟩, .string ⟨#[110]⟩, .string ⟨#[117]⟩, .string ⟨#[109]⟩, .string ⟨#[]⟩, .string ⟨#[107]⟩, .string ⟨#[109, 101, 103]⟩, .string ⟨#[103]⟩, .string ⟨#[116]⟩]
def pwC : Array Value := #[.string ⟨#[101, 45, 49, 53]⟩, .string ⟨#[101, 45, 49, 50]⟩, .string ⟨#[101, 45, 57]⟩, .string ⟨#[101, 45, 54]⟩, .string ⟨#[101, 45, 51]⟩, .string ⟨#[101, 48]⟩, .string ⟨#[101, 51]⟩, .string ⟨#[101, 43, 54]⟩, .string ⟨#[101, 57]⟩, .string ⟨#[101, 49, 50]⟩]
theorem pick10 (k : Nat) (h : k < 10) : ∃ t ∈ trip, nmC[k]? = some (.string ⟨t.1.toArray⟩) ∧ pwC[k]? = some (.string ⟨t.2.1.toArray⟩) := by
 match k, h with
 | 0, _ => exact ⟨_, List.mem_of_getElem? (i := 0) rfl, rfl, rfl⟩
 | 1, _ => exact ⟨_, List.mem_of_getElem? (i := 1) rfl, rfl, rfl⟩
 | 2, _ => exact ⟨_, List.mem_of_getElem? (i := 2) rfl, rfl, rfl⟩
 | 3, _ => exact ⟨_, List.mem_of_getElem? (i := 3) rfl, rfl, rfl⟩
 | 4, _ => exact ⟨_, List.mem_of_getElem? (i := 4) rfl, rfl, rfl⟩
 | 5, _ => exact ⟨_, List.mem_of_getElem? (i := 5) rfl, rfl, rfl⟩
 | 6, _ => exact ⟨_, List.mem_of_getElem? (i := 6) rfl, rfl, rfl⟩
 | 7, _ => exact ⟨_, List.mem_of_getElem? (i := 7) rfl, rfl, rfl⟩
 | 8, _ => exact ⟨_, List.mem_of_getElem? (i := 8) rfl, rfl, rfl⟩
 | 9, _ => exact ⟨_, List.mem_of_getElem? (i := 9) rfl, rfl, rfl⟩
theorem parse_bd (L : List UInt8) : -999999999 ≤ (parseOf L).1 ∧ (parseOf L).1 ≤ 999999999 := by
 rcases parse_ok L with h | h | ⟨m, x, h, ho⟩
 ·
  rw [h]; decide
 ·
  rw [h]; decide
 ·
  rw [h]; have := okN_bd ho; exact ⟨this.1, this.2.1⟩
set_option maxRecDepth 100000 in
set_option maxHeartbeats 16000000 in
theorem mshift_nat (n : Nat) (which : Int) (w : World) (hl : Lay w) (hn : n < 4294967296) (h0 : 0 ≤ which) (h1 : which ≤ 255) : Calls Tryz.prog 7 #[.int .u32 (n : Int), .int .u8 which] w fun e w' => Kept w w' ∧ e = .returned (.bool true) := by
 obtain ⟨kk, hkk⟩ : ∃ k : Nat, which.tmod 10 = (k : Int) := ⟨(which.tmod 10).toNat, by rw [Int.tmod_eq_emod_of_nonneg h0]; omega⟩
 have hk9 : kk < 10 := by rw [Int.tmod_eq_emod_of_nonneg h0] at hkk; omega
 obtain ⟨t, ht, hc1, hc2⟩ := pick10 kk hk9
 have hsay := trip_say ht
 have hD : Dig (Lib.decDigits n) := dec_dig n
 have hDl : (Lib.decDigits n).length ≤ 10 := dec_len (by decide) (Nat.lt_of_lt_of_le hn (by decide))
 have hshift := shift hD (dec_ne n) hDl ht
 have HS := hid' hshift
 have hbd := parse_bd (Lib.decDigits n ++ t.1)
 obtain ⟨ra, rb, rc, hr⟩ : ∃ ra rb rc, parseOf (Lib.decDigits n ++ t.1) = (ra, rb, rc) := ⟨_, _, _, rfl⟩
 rw [hr] at hshift hbd
 have HR := hid' (And.intro hr hshift)
 have hneg : IntKind.i64.wrap (-ra) = -ra := wrap_i64' (by have := hbd.2; simp only at this; omega) (by have := hbd.1; simp only at this; omega)
 obtain ⟨nb, hnb⟩ : ∃ b : ByteArray, b = ⟨t.1.toArray⟩ := ⟨_, rfl⟩
 obtain ⟨pb, hpb⟩ : ∃ b : ByteArray, b = ⟨t.2.1.toArray⟩ := ⟨_, rfl⟩
 rw [← hnb] at hc1
 rw [← hpb] at hc2
 have hnl : nb.data.toList = t.1 := by rw [hnb]
 have hpl : pb.data.toList = t.2.1 := by rw [hpb]
 have hns : nb.size ≤ 3 := by rw [size_list hnl]; exact hsay.1.2.2.2
 have hps : pb.size ≤ 4 := by rw [size_list hpl]; exact hsay.2.2.2.2
 have HC := hid' (And.intro hc1 (And.intro hc2 (And.intro hnl hpl)))
 have HL := hid' hl
 have HDl := hid' hDl
 clear hl hnb hpb hc1 hc2 hnl hpl hsay hD hDl hshift hr hbd ht
 go_enter Tryz.func7, Tryz.ntmps7
 go_wp2_with fail
 refine (awake_any _ HL.out).mono ?_
 rintro e w1 ⟨hk1, rfl⟩
 have HK1 := hid' hk1
 clear hk1
 go_upto_region 5 with fail
 have hK5 := (HK1.out.alloc (.cells #[.string ⟨#[102]⟩, .string ⟨#[112]⟩, .string ⟨#[110]⟩, .string ⟨#[117]⟩, .string ⟨#[109]⟩, .string ⟨#[]⟩, .string ⟨#[107]⟩, .string ⟨#[109, 101, 103]⟩, .string ⟨#[103]⟩, .string ⟨#[116]⟩] 9)).alloc (.cells #[.string ⟨#[101, 45, 49, 53]⟩, .string ⟨#[101, 45, 49, 50]⟩, .string ⟨#[101, 45, 57]⟩, .string ⟨#[101, 45, 54]⟩, .string ⟨#[101, 45, 51]⟩, .string ⟨#[101, 48]⟩, .string ⟨#[101, 51]⟩, .string ⟨#[101, 43, 54]⟩, .string ⟨#[101, 57]⟩, .string ⟨#[101, 49, 50]⟩] 9)
 have c1 : ((w1.alloc (.cells #[.string ⟨#[102]⟩, .string ⟨#[112]⟩, .string ⟨#[110]⟩, .string ⟨#[117]⟩, .string ⟨#[109]⟩, .string ⟨#[]⟩, .string ⟨#[107]⟩, .string ⟨#[109, 101, 103]⟩, .string ⟨#[103]⟩, .string ⟨#[116]⟩] 9)).alloc (.cells #[.string ⟨#[101, 45, 49, 53]⟩, .string ⟨#[101, 45, 49, 50]⟩, .string ⟨#[101, 45, 57]⟩, .string ⟨#[101, 45, 54]⟩, .string ⟨#[101, 45, 51]⟩, .string ⟨#[101, 48]⟩, .string ⟨#[101, 51]⟩, .string ⟨#[101, 43, 54]⟩, .string ⟨#[101, 57]⟩, .string ⟨#[101, 49, 50]⟩] 9)).cell? ⟨w1.heap.size, kk, none⟩ = some (.string nb) := cell_kept ((Kept.refl _).alloc _) ((World.cell?_alloc_at _ _ _ _ rfl).trans HC.out.1)
 have c2 : ((w1.alloc (.cells #[.string ⟨#[102]⟩, .string ⟨#[112]⟩, .string ⟨#[110]⟩, .string ⟨#[117]⟩, .string ⟨#[109]⟩, .string ⟨#[]⟩, .string ⟨#[107]⟩, .string ⟨#[109, 101, 103]⟩, .string ⟨#[103]⟩, .string ⟨#[116]⟩] 9)).alloc (.cells #[.string ⟨#[101, 45, 49, 53]⟩, .string ⟨#[101, 45, 49, 50]⟩, .string ⟨#[101, 45, 57]⟩, .string ⟨#[101, 45, 54]⟩, .string ⟨#[101, 45, 51]⟩, .string ⟨#[101, 48]⟩, .string ⟨#[101, 51]⟩, .string ⟨#[101, 43, 54]⟩, .string ⟨#[101, 57]⟩, .string ⟨#[101, 49, 50]⟩] 9)).cell? ⟨w1.heap.size + 1, kk, none⟩ = some (.string pb) := (World.cell?_alloc_at _ _ _ _ (by simp)).trans HC.out.2.1
 generalize (w1.alloc (.cells #[.string ⟨#[102]⟩, .string ⟨#[112]⟩, .string ⟨#[110]⟩, .string ⟨#[117]⟩, .string ⟨#[109]⟩, .string ⟨#[]⟩, .string ⟨#[107]⟩, .string ⟨#[109, 101, 103]⟩, .string ⟨#[103]⟩, .string ⟨#[116]⟩] 9)).alloc (.cells #[.string ⟨#[101, 45, 49, 53]⟩, .string ⟨#[101, 45, 49, 50]⟩, .string ⟨#[101, 45, 57]⟩, .string ⟨#[101, 45, 54]⟩, .string ⟨#[101, 45, 51]⟩, .string ⟨#[101, 48]⟩, .string ⟨#[101, 51]⟩, .string ⟨#[101, 43, 54]⟩, .string ⟨#[101, 57]⟩, .string ⟨#[101, 49, 50]⟩] 9) = W5 at hK5 c1 c2 ⊢
 obtain ⟨p6, hp6⟩ : ∃ p, p = w1.heap.size + 1 := ⟨_, rfl⟩
 rw [← hp6] at c2 ⊢
 obtain ⟨p5, hp5⟩ : ∃ p, p = w1.heap.size := ⟨_, rfl⟩
 rw [← hp5] at c1 ⊢
 have HK5 := hid' hK5
 have HC1 := hid' c1
 have HC2 := hid' c2
 have hki : (kk : Int) < 10 := by omega
 have hk0 : (0 : Int) ≤ (kk : Int) := by omega
 clear hp5 hp6 hK5 c1 c2
 go_wp2_with fail
 refine (decimal_any n hn _).mono ?_
 rintro e w6 ⟨hk6, s, hs, rfl⟩
 have hss : s.size ≤ 10 := by rw [size_list hs]; exact HDl.out
 have Hs := hid' hs
 have HK6 := hid' hk6
 have c1 := cell_kept HK6.out HC1.out
 clear hs hk6
 have hA1 : ¬ 9223372036854775807 < s.size + nb.size := by omega
 have hA2 : ¬ 9223372036854775807 < s.size + pb.size := by omega
 have hA3 : ¬ 9223372036854775807 < 1 + s.size := by omega
 have hA4 : ¬ 9223372036854775807 < 1 + s.size + 2 := by omega
 have hA5 : ¬ 9223372036854775807 < 1 + s.size + 2 + nb.size := by omega
 go_wp2_with fail
 refine (parse_any (s ++ nb) _ (HL.out.lett.kept (HK5.out.trans HK6.out)) (HL.out.err.kept (HK5.out.trans HK6.out)) (by rw [ByteArray.size_append]; unfold maxLen; omega)).mono ?_
 rintro e w7 ⟨hk7, rfl⟩
 rw [show parseOf (s ++ nb).data.toList = (ra, rb, rc) by rw [ByteArray.data_append, Array.toList_append, Hs.out, HC.out.2.2.1]; exact HR.out.1]
 simp only [numE]
 go_upto_region 8 with fail
 have hRb := Row2.alloc 24 w7 (.int .i64 ra) (.int .i64 rb)
 have hKb := (HK6.out.trans hk7).alloc (.cells #[.int .i64 ra, .int .i64 rb] 24)
 generalize w7.alloc (.cells #[.int .i64 ra, .int .i64 rb] 24) = Wb7 at hRb hKb  ⊢
 obtain ⟨p9, hpp⟩ : ∃ p, p = w7.heap.size := ⟨_, rfl⟩
 rw [← hpp] at hRb ⊢
 have HRb7 := hid' hRb
 have HKb7 := hid' hKb
 have c1 := cell_kept HKb7.out HC1.out
 have c2 := cell_kept HKb7.out HC2.out
 clear hRb hKb hpp
 go_wp2_with fail
 refine (parse_any (s ++ pb) _ (HL.out.lett.kept (HK5.out.trans HKb7.out)) (HL.out.err.kept (HK5.out.trans HKb7.out)) (by rw [ByteArray.size_append]; unfold maxLen; omega)).mono ?_
 rintro e w8 ⟨hk8, rfl⟩
 have hkX8 := hk8.alloc (.cells #[.int .i64 ra, .int .i64 rb] 24)
 rw [show parseOf (s ++ pb).data.toList = (ra, rb, rc) by rw [ByteArray.data_append, Array.toList_append, Hs.out, HC.out.2.2.2, HS.out.1]; exact HR.out.1]
 simp only [numE]
 go_upto_region 9 with fail
 have hRb := Row2.alloc 24 w8 (.int .i64 ra) (.int .i64 rb)
 have hKb := (HKb7.out.trans hk8).alloc (.cells #[.int .i64 ra, .int .i64 rb] 24)
 generalize w8.alloc (.cells #[.int .i64 ra, .int .i64 rb] 24) = Wb8 at hRb hKb hkX8 ⊢
 obtain ⟨p11, hpp⟩ : ∃ p, p = w8.heap.size := ⟨_, rfl⟩
 rw [← hpp] at hRb ⊢
 have HRb8 := hid' hRb
 have HKb8 := hid' hKb
 have c1 := cell_kept HKb8.out HC1.out
 have c2 := cell_kept HKb8.out HC2.out
 clear hRb hKb hpp
 go_wp2_with fail
 obtain ⟨z, hz⟩ : ∃ z : ByteArray, z = (⟨#[45]⟩ : ByteArray) ++ s ++ (⟨#[46, 48]⟩ : ByteArray) ++ nb := ⟨_, rfl⟩
 rw [← hz]
 have hzl : z.data.toList = [45] ++ Lib.decDigits n ++ [46, 48] ++ t.1 := by
  rw [hz, ByteArray.data_append, Array.toList_append, ByteArray.data_append, Array.toList_append, ByteArray.data_append, Array.toList_append, Hs.out, HC.out.2.2.1]
 have hzs : z.size ≤ 16 := by
  have e1 := size_list hzl
  have e2 := size_list HC.out.2.2.1
  have e3 := HDl.out
  simp only [List.length_append, List.length_cons, List.length_nil] at e1
  omega
 have HZ : Hid (parseOf z.data.toList = (-ra, rb, rc)) := by show _ = _; rw [hzl]; exact HR.out.2.2
 clear hz hzl
 refine (parse_any z _ (HL.out.lett.kept (HK5.out.trans HKb8.out)) (HL.out.err.kept (HK5.out.trans HKb8.out)) (by unfold maxLen; omega)).mono ?_
 rintro e w9 ⟨hk9', rfl⟩
 have hkX9 := hk9'.alloc (.cells #[.int .i64 (-ra), .int .i64 rb] 24)
 rw [HZ.out]
 simp only [numE]
 go_upto_region 10 with fail
 have hRb := Row2.alloc 24 w9 (.int .i64 (-ra)) (.int .i64 rb)
 have hKb := (HKb8.out.trans hk9').alloc (.cells #[.int .i64 (-ra), .int .i64 rb] 24)
 generalize w9.alloc (.cells #[.int .i64 (-ra), .int .i64 rb] 24) = Wb9 at hRb hKb hkX9 ⊢
 obtain ⟨p13, hpp⟩ : ∃ p, p = w9.heap.size := ⟨_, rfl⟩
 rw [← hpp] at hRb ⊢
 have HRb9 := hid' hRb
 have HKb9 := hid' hKb
 have c1 := cell_kept HKb9.out HC1.out
 have c2 := cell_kept HKb9.out HC2.out
 clear hRb hKb hpp
 obtain ⟨a0, a1, a2, a3⟩ := (HRb7.out.kept ((hkX8).trans hkX9)).all
 obtain ⟨b0, b1, b2, b3⟩ := (HRb8.out.kept hkX9).all
 obtain ⟨d0, d1, d2, d3⟩ := HRb9.out.all
 go_wp2_with fail
 go_ret
 exact ⟨HK5.out.trans HKb9.out, rfl⟩
theorem mshift_any (z which : Int) (w : World) (hl : Lay w) (hz : 0 ≤ z ∧ z ≤ 4294967295) (hw : 0 ≤ which ∧ which ≤ 255) : Calls Tryz.prog 7 #[.int .u32 z, .int .u8 which] w fun e w' => Kept w w' ∧ e = .returned (.bool true) := by
 obtain ⟨n, rfl⟩ : ∃ n : Nat, z = (n : Int) := ⟨z.toNat, by omega⟩
 exact mshift_nat n which w hl (by omega) hw.1 hw.2
end Q
end Go.Proofs.YtboliplhgpndpaaGreatDoor
