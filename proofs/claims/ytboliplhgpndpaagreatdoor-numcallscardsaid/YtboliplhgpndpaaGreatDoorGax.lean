/- shuntref03.Text. NumCalls, from call to call. -/
import Derived.Test.YtboliplhgpndpaaGreatDoorNdig
import Derived.Test.YtboliplhgpndpaaGreatDoorGaw
import Derived.Test.YtboliplhgpndpaaGreatDoorGao
namespace Go.Proofs.YtboliplhgpndpaaGreatDoor
open Go.RowKit
namespace Q
theorem digits_int (s : Bool) (ao : Option Addr) (k cap : Nat) (v : Int) (w : World) (h : D.NIs w s (.slice ao k cap) v) (h1 : -999999999 ≤ v) (h2 : v ≤ 999999999) (hk : k ≤ 200) :
  Calls Tryz.prog 38 #[.agg #[.bool s, .slice ao k cap]] w fun e w' => Kept w w' ∧ ∃ t : ByteArray, (t.data.toList = Lib.itoa v ∧ t.size ≤ 10) ∧ e = .returned (.string t) := by
 obtain ⟨m, l, hr, hi, hv, hm⟩ : ∃ m l, M.Right m l ∧ M.int m l = v ∧ M.val l = v.natAbs ∧ m = decide (v < 0) := by
  by_cases h0 : v = 0
  ·
   subst h0
   exact ⟨false, [], ⟨fun x hx => by simp at hx, .inl rfl, by decide, fun _ => rfl⟩, rfl, rfl, rfl⟩
  ·
   refine ⟨decide (v < 0), [v.natAbs], ⟨fun x hx => by simp at hx; omega, .inr (by simpa using h0), by simp, fun h => by cases h⟩, ?_, by simp [M.val], rfl⟩
   unfold M.int
   by_cases hn : v < 0 <;> simp [hn, M.val] <;> omega
 rw [← hi] at h
 refine (D.Digits_any s ao k cap m l w h hr hk).mono ?_
 rintro e w' ⟨hkk, S, hp, hd, rfl⟩
 have e1 : (⟨(tx m S).toArray⟩ : ByteArray).data.toList = Lib.itoa v := by
  rw [itoa_sg, ← hv, ← hd, ← plain_dec hp, ← hm]
  show tx m S = _
  unfold tx sg
  cases m <;> rfl
 exact ⟨hkk, _, ⟨e1, by rw [size_of e1]; exact itoa_len v h1 h2⟩, rfl⟩
theorem idxD (k : Nat) (h : k < 9) : ∃ nm : List UInt8, nm.length ≤ 3 ∧ (#[.string ⟨#[102]⟩, .string ⟨#[112]⟩, .string ⟨#[110]⟩, .string ⟨#[117]⟩, .string ⟨#[109]⟩, .string ⟨#[]⟩, .string ⟨#[107]⟩, .string ⟨#[109, 101, 103]⟩, .string ⟨#[103]⟩] : Array Value)[k]? = some (.string ⟨nm.toArray⟩) ∧ ∀ x : Int, 3 * (k : Int) - 15 ≤ x → x < 3 * (k : Int) - 12 → below x = some (nm, 3 * (k : Int) - 15) := by
 match k, h with
 | 0, _ => exact ⟨[102], by decide, rfl, fun x h1 h2 => by
   rcases (show x = -15 ∨ x = -14 ∨ x = -13 by omega) with rfl | rfl | rfl <;> rfl⟩
 | 1, _ => exact ⟨[112], by decide, rfl, fun x h1 h2 => by
   rcases (show x = -12 ∨ x = -11 ∨ x = -10 by omega) with rfl | rfl | rfl <;> rfl⟩
 | 2, _ => exact ⟨[110], by decide, rfl, fun x h1 h2 => by
   rcases (show x = -9 ∨ x = -8 ∨ x = -7 by omega) with rfl | rfl | rfl <;> rfl⟩
 | 3, _ => exact ⟨[117], by decide, rfl, fun x h1 h2 => by
   rcases (show x = -6 ∨ x = -5 ∨ x = -4 by omega) with rfl | rfl | rfl <;> rfl⟩
 | 4, _ => exact ⟨[109], by decide, rfl, fun x h1 h2 => by
   rcases (show x = -3 ∨ x = -2 ∨ x = -1 by omega) with rfl | rfl | rfl <;> rfl⟩
 | 5, _ => exact ⟨[], by decide, rfl, fun x h1 h2 => by
   rcases (show x = 0 ∨ x = 1 ∨ x = 2 by omega) with rfl | rfl | rfl <;> rfl⟩
 | 6, _ => exact ⟨[107], by decide, rfl, fun x h1 h2 => by
   rcases (show x = 3 ∨ x = 4 ∨ x = 5 by omega) with rfl | rfl | rfl <;> rfl⟩
 | 7, _ => exact ⟨[109, 101, 103], by decide, rfl, fun x h1 h2 => by
   rcases (show x = 6 ∨ x = 7 ∨ x = 8 by omega) with rfl | rfl | rfl <;> rfl⟩
 | 8, _ => exact ⟨[103], by decide, rfl, fun x h1 h2 => by
   rcases (show x = 9 ∨ x = 10 ∨ x = 11 by omega) with rfl | rfl | rfl <;> rfl⟩
theorem text_nil : textOf 0 0 = [48] := by
 have e : below 0 = some ([], 0) := rfl
 unfold textOf
 rw [e, itoa_sg]
 show sg false ++ Lib.decDigits 0 ++ _ ++ _ = _
 rw [Lib.decDigits, dif_pos (by decide)]
 rfl
theorem text_low {m x : Int} (h : x < -15) (h9 : x ≤ 9) : textOf m x = Lib.itoa m ++ [101, 45] ++ Lib.itoa (-x) := by
 rcases below_cases h9 with ⟨_, hn⟩ | ⟨nm, y, hn, hm, h2, h3⟩
 ·
  unfold textOf
  rw [hn, itoa_sg x, itoa_sg (-x), Int.natAbs_neg, decide_eq_true (show x < 0 by omega), decide_eq_false (show ¬ -x < 0 by omega)]
  simp [sg]
 ·
  exfalso
  have hc : ∀ p ∈ names, -15 ≤ p.2 := by decide
  have := hc _ hm
  omega
set_option maxRecDepth 100000 in
set_option maxHeartbeats 16000000 in
theorem rtext_any (m x : Int) (w : World) : Calls Tryz.prog 12 #[.agg #[.int .i64 m, .int .i64 x]] w fun e w' => Kept w w' ∧ TextIs e m x := by
 go_enter Tryz.func12, Tryz.ntmps12
 go_upto_region 1 with fail
 have hK := (Kept.refl w).alloc (.cells #[.int .i64 m, .int .i64 x] 24)
 have hR := Row2.alloc 24 w (.int .i64 m) (.int .i64 x)
 generalize w.alloc (.cells #[.int .i64 m, .int .i64 x] 24) = W at hK hR ⊢
 obtain ⟨p1, hp1⟩ : ∃ p, p = w.heap.size := ⟨_, rfl⟩
 rw [← hp1] at hR ⊢
 have HK := hid' hK
 have HR := hid' hR
 obtain ⟨q0, q1, q2, q3⟩ := hR.all
 clear hp1 hK hR
 go_wp2_with fail
 refine (RValid_any m x _).mono ?_
 rintro e w1 ⟨hk1, rfl⟩
 have HK1 := hid' hk1
 clear hk1 q0 q1 q2 q3
 by_cases ho : okN m x = true
 ·
  have hb := okN_bd ho
  rw [ho]
  have HO := hid' ho
  obtain ⟨q0, q1, q2, q3⟩ := (HR.out.kept HK1.out).all
  by_cases hm0 : m = 0
  ·
   have hx0 : x = 0 := by
    rcases okN_iff.1 ho with ⟨_, h⟩ | ⟨h, _⟩
    ·
     exact h
    ·
     exact absurd hm0 h
   subst hm0 hx0
   clear ho
   go_wp2_with fail
   go_ret2
   exact ⟨HK.out.trans HK1.out, .inr ⟨HO.out, ⟨#[48]⟩, text_nil.symm, rfl⟩⟩
  ·
   have hmz : (m == 0) = false := by simpa using hm0
   clear ho
   go_wp2_with fail
   refine (D.wide_any m _ (by omega) (by omega)).mono ?_
   rintro e w2 ⟨hk2, s2, a2, k2, c2, rfl, n2, l2⟩
   have HK2 := hid' (HK1.out.trans hk2)
   have H2 := hid' (And.intro n2 l2)
   clear hk2 n2 l2 q0 q1 q2 q3
   go_wp2_with fail
   refine (digits_int s2 a2 k2 c2 m _ H2.out.1 hb.1 hb.2.1 (by have := H2.out.2; omega)).mono ?_
   rintro e w3 ⟨hk3, d, hd, rfl⟩
   have HK3 := hid' (HK2.out.trans hk3)
   have Hd := hid' hd.1
   have hds := hd.2
   clear hk3 hd
   obtain ⟨q0, q1, q2, q3⟩ := (HR.out.kept HK3.out).all
   by_cases hx : x < -15
   ·
    have hwn : IntKind.i64.wrap (-x) = -x := wrap_i64' (by omega) (by omega)
    have hA : ¬ 9223372036854775807 < d.size + 2 := by omega
    have hA' : ¬ 9223372036854775807 < d.size + (⟨#[101, 45]⟩ : ByteArray).size := by show ¬ _ < _ + 2; omega
    go_wp2_with fail
    refine (D.small_num (-x) _ (by omega) (by omega)).mono ?_
    rintro e w4 ⟨hk4, a4, k4, c4, rfl, n4, l4⟩
    have K4 := hid' (HK3.out.trans hk4)
    have H4 := hid' (And.intro n4 l4)
    clear n4 l4 hk4
    go_wp2_with fail
    refine (digits_int false a4 k4 c4 (-x) _ H4.out.1 (by omega) (by omega) (by have := H4.out.2; omega)).mono ?_
    rintro e w5 ⟨hk5, z, hz, rfl⟩
    have HK5 := hid' (HK.out.trans (K4.out.trans hk5))
    have Hz := hid' hz.1
    have hzs := hz.2
    have hB : ¬ 9223372036854775807 < d.size + 2 + z.size := by omega
    have hB' : ¬ 9223372036854775807 < (d ++ (⟨#[101, 45]⟩ : ByteArray)).size + z.size := by rw [ByteArray.size_append]; exact hB
    clear hz hk5 q0 q1 q2 q3
    go_wp2_with fail
    go_ret2
    exact ⟨HK5.out, .inr ⟨HO.out, d ++ ⟨#[101, 45]⟩ ++ z, by rw [text_low hx hb.2.2.2]; simp [ByteArray.data_append, Hd.out, Hz.out], rfl⟩⟩
   ·
    go_upto_region 9 with fail
    have hK4 := HK3.out.alloc (.cells #[.string ⟨#[102]⟩, .string ⟨#[112]⟩, .string ⟨#[110]⟩, .string ⟨#[117]⟩, .string ⟨#[109]⟩, .string ⟨#[]⟩, .string ⟨#[107]⟩, .string ⟨#[109, 101, 103]⟩, .string ⟨#[103]⟩] 9)
    have hC : ∀ k, (w3.alloc (.cells #[.string ⟨#[102]⟩, .string ⟨#[112]⟩, .string ⟨#[110]⟩, .string ⟨#[117]⟩, .string ⟨#[109]⟩, .string ⟨#[]⟩, .string ⟨#[107]⟩, .string ⟨#[109, 101, 103]⟩, .string ⟨#[103]⟩] 9)).cell? ⟨w3.heap.size, k, none⟩ = (#[.string ⟨#[102]⟩, .string ⟨#[112]⟩, .string ⟨#[110]⟩, .string ⟨#[117]⟩, .string ⟨#[109]⟩, .string ⟨#[]⟩, .string ⟨#[107]⟩, .string ⟨#[109, 101, 103]⟩, .string ⟨#[103]⟩] : Array Value)[k]? := fun k => World.cell?_alloc_at _ _ _ _ rfl
    generalize w3.alloc (.cells #[.string ⟨#[102]⟩, .string ⟨#[112]⟩, .string ⟨#[110]⟩, .string ⟨#[117]⟩, .string ⟨#[109]⟩, .string ⟨#[]⟩, .string ⟨#[107]⟩, .string ⟨#[109, 101, 103]⟩, .string ⟨#[103]⟩] 9) = W4 at hK4 hC ⊢
    obtain ⟨p4, hp4⟩ : ∃ p, p = w3.heap.size := ⟨_, rfl⟩
    rw [← hp4] at hC ⊢
    have HK4 := hid' hK4
    have HC := hid' hC
    clear hp4 hK4 hC q0 q1 q2 q3
    obtain ⟨q0, q1, q2, q3⟩ := (HR.out.kept HK4.out).all
    go_wp2_with fail
    go_loopw [4, 6] (fun vs vi wr => ∃ i : Nat, i < 9 ∧ vs = .string d ∧ vi = .int .i64 (i : Int) ∧ wr = W4 ∧ x < 3 * (i : Int) - 12) (fun _ vi _ => (intOf vi).toNat)
    case atStart => exact ⟨8, by omega, rfl, rfl, rfl, by omega⟩
    case round =>
     obtain ⟨i, hi, rfl, rfl, hwr, hxi⟩ := hrel
     subst hwr
     have hi0 : (0 : Int) ≤ (i : Int) := by omega
     have hw1 : IntKind.i64.wrap (3 * (i : Int)) = 3 * (i : Int) := wrap_i64' (by omega) (by omega)
     have hw2 : IntKind.i64.wrap (3 * (i : Int) - 15) = 3 * (i : Int) - 15 := wrap_i64' (by omega) (by omega)
     by_cases hle : 3 * (i : Int) - 15 ≤ x
     ·
      obtain ⟨nm, hnl, hcv, hbe⟩ := idxD i hi
      have hc := (HC.out i).trans hcv
      have HB := hid' (hbe x hle hxi)
      clear hcv hbe
      obtain ⟨nb, hnb⟩ : ∃ d : ByteArray, d = ⟨nm.toArray⟩ := ⟨_, rfl⟩
      rw [← hnb] at hc
      have Hn : Hid (nb.data.toList = nm) := by show _ = _; rw [hnb]
      have hns : nb.size ≤ 3 := by rw [size_of Hn.out]; exact hnl
      clear hnb
      go_wp2_with fail
      go_loopw [4, 7] (fun vs vk wq => ∃ (c : Nat) (t : ByteArray), vs = .string t ∧ vk = .int .i64 (3 * (i : Int) - 15 + (c : Int)) ∧ 3 * (i : Int) - 15 + (c : Int) ≤ x ∧ wq = wr ∧ t.size ≤ 20 ∧ Hid (t.data.toList = Lib.itoa m ++ List.replicate c 48)) (fun _ vk _ => (x - intOf vk).toNat)
      case atStart => exact ⟨0, d, rfl, by simp, by omega, rfl, by omega, by show _ = _; rw [Hd.out]; simp⟩
      case round =>
       obtain ⟨c, t, rfl, rfl, hcx, hwq, hts, Ht⟩ := hrel
       subst hwq
       have hc2 : c ≤ 2 := by omega
       have htl : t.size ≤ 12 := by rw [size_of Ht.out, List.length_append, List.length_replicate]; have := itoa_len m hb.1 hb.2.1; omega
       by_cases hlt : 3 * (i : Int) - 15 + (c : Int) < x
       ·
        have hw3 : IntKind.i64.wrap (3 * (i : Int) - 15 + (c : Int) + 1) = 3 * (i : Int) - 15 + (c : Int) + 1 := wrap_i64' (by omega) (by omega)
        have hA : ¬ 9223372036854775807 < t.size + 1 := by omega
        have hA' : ¬ 9223372036854775807 < t.size + (⟨#[48]⟩ : ByteArray).size := by show ¬ _ < _ + 1; omega
        go_wp2_with fail
        go_roundw
        case rel => exact ⟨c + 1, t ++ ⟨#[48]⟩, rfl, by congr 1; omega, by omega, trivial, by rw [ByteArray.size_append]; show _ + 1 ≤ _; omega, by show _ = _; rw [ByteArray.data_append, Array.toList_append, Ht.out, List.append_assoc, ← List.replicate_succ']⟩
        case measure => show (x - (3 * (i : Int) - 15 + (c : Int) + 1)).toNat < (x - (3 * (i : Int) - 15 + (c : Int))).toNat; omega
       ·
        have hA : ¬ 9223372036854775807 < t.size + nb.size := by omega
        go_wp2_with fail
        go_ret2
        exact ⟨HK.out.trans HK4.out, .inr ⟨HO.out, t ++ nb, by unfold textOf; rw [HB.out]; simp [ByteArray.data_append, Ht.out, Hn.out]; omega, rfl⟩⟩
     ·
      have hi1 : 1 ≤ i := by omega
      have hwi : IntKind.i64.wrap ((i : Int) - 1) = (i : Int) - 1 := wrap_i64' (by omega) (by omega)
      go_wp2_with fail
      go_roundw
      case rel => exact ⟨i - 1, by omega, rfl, by congr 1; omega, trivial, by omega⟩
      case measure => show ((i : Int) - 1).toNat < (i : Int).toNat; omega
 ·
  have ho : okN m x = false := by simpa using ho
  rw [ho]
  have HO := hid' ho
  clear ho
  go_wp2
  go_ret2
  exact ⟨HK.out.trans HK1.out, .inl ⟨HO.out, rfl⟩⟩
end Q
end Go.Proofs.YtboliplhgpndpaaGreatDoor

namespace Go.Proofs.YtboliplhgpndpaaGreatDoor
open Go.RowKit
namespace Q
theorem text_shape {e : Ending} {m x : Int} (h : TextIs e m x) : ∃ (t : ByteArray) (ec : Int), e = .returned (.tuple #[.string t, .int .i64 ec]) := by
 rcases h with ⟨_, rfl⟩ | ⟨_, t, _, rfl⟩
 ·
  exact ⟨_, _, rfl⟩
 ·
  exact ⟨_, _, rfl⟩
theorem text_one {e e' : Ending} {m x : Int} (h : TextIs e m x) (h' : TextIs e' m x) : e' = e := by
 rcases h with ⟨o, rfl⟩ | ⟨o, t, ht, rfl⟩ <;> rcases h' with ⟨o', rfl⟩ | ⟨o', t', ht', rfl⟩
 ·
  rfl
 ·
  exact absurd (o.symm.trans o') (by decide)
 ·
  exact absurd (o.symm.trans o') (by decide)
 ·
  have : t' = t := by
   cases t; cases t'
   congr 1
   exact Array.toList_inj.1 (ht'.trans ht.symm)
  rw [this]
theorem grid_shape {e : Ending} {m x : Int} (h : GridIs e m x) : ∃ (g ec : Int), e = .returned (.tuple #[.int .i64 g, .int .i64 ec]) := by
 rcases h with ⟨_, rfl⟩ | ⟨_, N, D, _, rfl⟩
 ·
  exact ⟨_, _, rfl⟩
 ·
  exact ⟨_, _, rfl⟩
theorem grid_one {e e' : Ending} {m x : Int} (h : GridIs e m x) (h' : GridIs e' m x) : e' = e := by
 rcases h with ⟨o, rfl⟩ | ⟨o, N, D, hs, rfl⟩ <;> rcases h' with ⟨o', rfl⟩ | ⟨o', N', D', hs', rfl⟩
 ·
  rfl
 ·
  exact absurd (o.symm.trans o') (by decide)
 ·
  exact absurd (o.symm.trans o') (by decide)
 ·
  obtain ⟨rfl, rfl⟩ := scl_one hs hs'
  rfl
theorem cmp_shape {e : Ending} {m x m' x' : Int} (h : CmpIs e m x m' x') : ∃ (g ec : Int), e = .returned (.tuple #[.int .i64 g, .int .i64 ec]) := by
 rcases h with ⟨_, rfl⟩ | ⟨_, N, D, N', D', _, _, rfl⟩
 ·
  exact ⟨_, _, rfl⟩
 ·
  exact ⟨_, _, rfl⟩
theorem cmp_one {e e' : Ending} {m x m' x' : Int} (h : CmpIs e m x m' x') (h' : CmpIs e' m x m' x') : e' = e := by
 rcases h with ⟨o, rfl⟩ | ⟨o, N, D, N1, D1, hs, hs1, rfl⟩ <;> rcases h' with ⟨o', rfl⟩ | ⟨o', N', D', N1', D1', hs', hs1', rfl⟩
 ·
  rfl
 ·
  exact absurd o' o
 ·
  exact absurd o o'
 ·
  obtain ⟨rfl, rfl⟩ := scl_one hs hs'
  obtain ⟨rfl, rfl⟩ := scl_one hs1 hs1'
  rfl
def ValP (m x : Int) (s t : Bool) (l l' : List Nat) (ec : Int) : Prop :=
 (okN m x = false ∧ s = false ∧ t = false ∧ l = [] ∧ l' = [] ∧ ec = 30) ∨ (okN m x = true ∧ ec = 0 ∧ M.Right s l ∧ M.Right t l' ∧ ∃ (N : Int) (D : Nat), M.int s l = N ∧ M.int t l' = (D : Int) ∧ Scl m x N D)
theorem valP_len {m x : Int} {s t : Bool} {l l' : List Nat} {ec : Int} (h : ValP m x s t l l' ec) : l.length ≤ 1000 ∧ l'.length ≤ 1000 := by
 rcases h with ⟨_, _, _, rfl, rfl, _⟩ | ⟨_, _, h1, h2, _⟩
 ·
  decide
 ·
  have := h1.len
  have := h2.len
  omega
theorem valP_one {m x : Int} {s t s' t' : Bool} {l l' k k' : List Nat} {ec ec' : Int} (h : ValP m x s t l l' ec) (h' : ValP m x s' t' k k' ec') : s' = s ∧ t' = t ∧ k = l ∧ k' = l' ∧ ec' = ec := by
 rcases h with ⟨o, rfl, rfl, rfl, rfl, rfl⟩ | ⟨o, rfl, h1, h2, N, D, i1, i2, hs⟩ <;> rcases h' with ⟨o', rfl, rfl, rfl, rfl, rfl⟩ | ⟨o', rfl, h1', h2', N', D', i1', i2', hs'⟩
 ·
  exact ⟨rfl, rfl, rfl, rfl, rfl⟩
 ·
  exact absurd (o.symm.trans o') (by decide)
 ·
  exact absurd (o.symm.trans o') (by decide)
 ·
  obtain ⟨rfl, rfl⟩ := scl_one hs hs'
  obtain ⟨e1, e2⟩ := M.int_inj h1' h1 (i1'.trans i1.symm)
  obtain ⟨e3, e4⟩ := M.int_inj h2' h2 (i2'.trans i2.symm)
  exact ⟨e1, e3, e2, e4, rfl⟩
def ValE (w : World) (e : Ending) (m x : Int) : Prop := ∃ (s : Bool) (ao : Option Addr) (k c : Nat) (t : Bool) (ap : Option Addr) (k' c' : Nat) (ec : Int) (l l' : List Nat), e = .returned (.tuple #[.agg #[.bool s, .slice ao k c, .bool t, .slice ap k' c'], .int .i64 ec]) ∧ Sl w (.slice ao k c) l ∧ Sl w (.slice ap k' c') l' ∧ ValP m x s t l l' ec
theorem valE_num {B : Nat} {w : World} {e : Ending} {m x : Int} (h : ValIs B w e m x) : ValE w e m x := by
 rcases h with ⟨o, rfl⟩ | ⟨o, v, N, D, rfl, ⟨s, ao, ap, k, c, k', c', l, l', rfl, n1, n2, r, i1, i2⟩, hs⟩
 ·
  exact ⟨false, none, 0, 0, false, none, 0, 0, 30, [], [], rfl, Sl.nil _ _ _, Sl.nil _ _ _, .inl ⟨o, rfl, rfl, rfl, rfl, rfl⟩⟩
 ·
  exact ⟨s, ao, k, c, false, ap, k', c', 0, l, l', rfl, n1.sl, n2.sl, .inr ⟨o, rfl, r.ra.right n1.1, r.rd.right n2.1, N, D, i1, by rw [← i2]; rfl, hs⟩⟩
theorem valE_ref {B : Nat} {w : World} {e : Ending} {m x : Int} (h : RVal B w e m x) : ValE w e m x := by
 rcases h with ⟨o, rfl⟩ | ⟨o, s, ao, k, c, l, t, ap, k', c', l', N, D, rfl, n1, n2, r1, r2, i1, i2, hs⟩
 ·
  exact ⟨false, none, 0, 0, false, none, 0, 0, 30, [], [], rfl, Sl.nil _ _ _, Sl.nil _ _ _, .inl ⟨o, rfl, rfl, rfl, rfl, rfl⟩⟩
 ·
  exact ⟨s, ao, k, c, t, ap, k', c', 0, l, l', rfl, n1.sl, n2.sl, .inr ⟨o, rfl, r1, r2, N, D, i1, i2, hs⟩⟩
theorem rrow4' {w : World} {p : Nat} {x0 x1 x2 x3 : Value} (h : F.RRow w p x0 x1 x2 x3) : w.cell? ⟨p, 0, none⟩ = some x0 ∧ w.cell? ⟨p, 1, none⟩ = some x1 ∧ w.cell? ⟨p, 2, none⟩ = some x2 ∧ w.cell? ⟨p, 3, none⟩ = some x3 := ⟨h.c0, h.c1, h.c2, h.c3⟩
set_option maxRecDepth 100000 in
set_option maxHeartbeats 16000000 in
theorem mcalls_any (m x m' x' : Int) (w : World) (hl : Lay w) :
  Calls Tryz.prog 4 #[.agg #[.int .i64 m, .int .i64 x], .agg #[.int .i64 m', .int .i64 x']] w fun e w' => Kept w w' ∧ e = .returned (.bool true) := by
 have HL := hid' hl
 clear hl
 go_enter Tryz.func4, Tryz.ntmps4
 go_upto_region 1 with fail
 have hK := ((Kept.refl w).alloc (.cells #[.int .i64 m, .int .i64 x] 24)).alloc (.cells #[.int .i64 m', .int .i64 x'] 24)
 have hR2 := (Row2.alloc 24 w (.int .i64 m) (.int .i64 x)).kept ((Kept.refl _).alloc (.cells #[.int .i64 m', .int .i64 x'] 24))
 have hR3 := Row2.alloc 24 (w.alloc (.cells #[.int .i64 m, .int .i64 x] 24)) (.int .i64 m') (.int .i64 x')
 rw [World.size_alloc] at hR3
 generalize (w.alloc (.cells #[.int .i64 m, .int .i64 x] 24)).alloc (.cells #[.int .i64 m', .int .i64 x'] 24) = W at hK hR2 hR3 ⊢
 obtain ⟨p3, hp3⟩ : ∃ p, p = w.heap.size + 1 := ⟨_, rfl⟩
 rw [← hp3] at hR3 ⊢
 obtain ⟨p2, hp2⟩ : ∃ p, p = w.heap.size := ⟨_, rfl⟩
 rw [← hp2] at hR2 ⊢
 have HK := hid' hK
 have HR2 := hid' hR2
 have HR3 := hid' hR3
 clear hp2 hp3 hK hR2 hR3
 go_wp2_with fail
 refine (awake_any _ (HL.out.kept HK.out)).mono ?_
 rintro e w1 ⟨hk, rfl⟩
 have HK1 := hid' hk
 clear hk
 obtain ⟨a0, a1, a2, a3⟩ := (HR2.out.kept HK1.out).all
 go_wp2_with fail
 refine (text_any m x _ (HL.out.kept (HK.out.trans HK1.out)).lett (HL.out.kept (HK.out.trans HK1.out)).tab).mono ?_
 rintro e w2 ⟨hk, ht⟩
 have HK2 := hid' (HK1.out.trans hk)
 obtain ⟨t, te, rfl⟩ := text_shape ht
 have HT := hid' ht
 clear hk ht a0 a1 a2 a3
 obtain ⟨a0, a1, a2, a3⟩ := (HR2.out.kept HK2.out).all
 go_wp2_with fail
 refine (rtext_any m x _).mono ?_
 rintro e w3 ⟨hk, ht⟩
 have HK3 := hid' (HK2.out.trans hk)
 obtain rfl := text_one HT.out ht
 clear hk ht HT a0 a1 a2 a3
 obtain ⟨a0, a1, a2, a3⟩ := (HR2.out.kept HK3.out).all
 go_wp2_with fail
 refine (value_any m x _).mono ?_
 rintro e w4 ⟨hk, hv⟩
 obtain ⟨s4, o4, k4, c4, t4, i4, j4, d4, e4, l4, l4', rfl, n1, n2, hp⟩ := valE_num hv
 have hKa := (HK3.out.trans hk).alloc (.cells #[.bool s4, .slice o4 k4 c4, .bool t4, .slice i4 j4 d4] 39)
 clear a0 a1 a2 a3 hv
 go_upto_region 6 with fail
 have hV := F.RRow.alloc w4 (.bool s4) (.slice o4 k4 c4) (.bool t4) (.slice i4 j4 d4)
 have HQ4 := hid' (And.intro (n1.kept ((Kept.refl _).alloc (.cells #[.bool s4, .slice o4 k4 c4, .bool t4, .slice i4 j4 d4] 39))) (And.intro (n2.kept ((Kept.refl _).alloc (.cells #[.bool s4, .slice o4 k4 c4, .bool t4, .slice i4 j4 d4] 39))) hp))
 generalize w4.alloc (.cells #[.bool s4, .slice o4 k4 c4, .bool t4, .slice i4 j4 d4] 39) = W4 at hV HQ4 hKa ⊢
 obtain ⟨p9, hpp⟩ : ∃ p, p = w4.heap.size := ⟨_, rfl⟩
 rw [← hpp] at hV ⊢
 have HV4 := hid' hV
 have HK4 := hid' hKa
 clear hV hKa hpp n1 n2 hp hk
 obtain ⟨a0, a1, a2, a3⟩ := (HR2.out.kept HK4.out).all
 go_wp2_with fail
 refine (rvalue_any m x _).mono ?_
 rintro e w5 ⟨hk, hv⟩
 obtain ⟨s5, o5, k5, c5, t5, i5, j5, d5, e5, l5, l5', rfl, n1, n2, hp⟩ := valE_ref hv
 obtain ⟨rfl, rfl, rfl, rfl, rfl⟩ := valP_one HQ4.out.2.2 hp
 have hKa := (HK4.out.trans hk).alloc (.cells #[.bool s5, .slice o5 k5 c5, .bool t5, .slice i5 j5 d5] 39)
 have HKw := hid' (hk.alloc (.cells #[.bool s5, .slice o5 k5 c5, .bool t5, .slice i5 j5 d5] 39))
 clear a0 a1 a2 a3 hv
 go_upto_region 7 with fail
 have hV := F.RRow.alloc w5 (.bool s5) (.slice o5 k5 c5) (.bool t5) (.slice i5 j5 d5)
 have HQ5 := hid' (And.intro (n1.kept ((Kept.refl _).alloc (.cells #[.bool s5, .slice o5 k5 c5, .bool t5, .slice i5 j5 d5] 39))) (n2.kept ((Kept.refl _).alloc (.cells #[.bool s5, .slice o5 k5 c5, .bool t5, .slice i5 j5 d5] 39))))
 generalize w5.alloc (.cells #[.bool s5, .slice o5 k5 c5, .bool t5, .slice i5 j5 d5] 39) = W5 at hV HQ5 hKa HKw ⊢
 obtain ⟨p11, hpp⟩ : ∃ p, p = w5.heap.size := ⟨_, rfl⟩
 rw [← hpp] at hV ⊢
 have HV5 := hid' hV
 have HK5 := hid' hKa
 clear hV hKa hpp n1 n2 hp hk
 obtain ⟨a0, a1, a2, a3⟩ := (HR2.out.kept HK5.out).all
 go_wp2_with fail
 refine (grid_any m x _).mono ?_
 rintro e w6 ⟨hk, hg⟩
 obtain ⟨g6, e6, rfl⟩ := grid_shape hg
 have HG := hid' hg
 have HU6 := hid' hk
 have HK6 := hid' (HK5.out.trans hk)
 clear hk hg a0 a1 a2 a3
 obtain ⟨a0, a1, a2, a3⟩ := (HR2.out.kept HK6.out).all
 go_wp2_with fail
 refine (rgrid_any m x _).mono ?_
 rintro e w7 ⟨hk, hg⟩
 obtain rfl := grid_one HG.out hg
 have HU7 := hid' (HU6.out.trans hk)
 have HK7 := hid' (HK6.out.trans hk)
 clear hk hg HG a0 a1 a2 a3
 obtain ⟨a0, a1, a2, a3⟩ := (HR2.out.kept HK7.out).all
 obtain ⟨b0, b1, b2, b3⟩ := (HR3.out.kept HK7.out).all
 go_wp2_with fail
 refine (cmp_any m x m' x' _).mono ?_
 rintro e w8 ⟨hk, hg⟩
 obtain ⟨g8, e8, rfl⟩ := cmp_shape hg
 have HG := hid' hg
 have HU8 := hid' (HU7.out.trans hk)
 have HK8 := hid' (HK7.out.trans hk)
 clear hk hg a0 a1 a2 a3 b0 b1 b2 b3
 obtain ⟨a0, a1, a2, a3⟩ := (HR2.out.kept HK8.out).all
 obtain ⟨b0, b1, b2, b3⟩ := (HR3.out.kept HK8.out).all
 go_wp2_with fail
 refine (rcmp_any m x m' x' _).mono ?_
 rintro e w9 ⟨hk, hg⟩
 obtain rfl := cmp_one HG.out hg
 have HU9 := hid' (HU8.out.trans hk)
 have HK9 := hid' (HK8.out.trans hk)
 clear hk hg HG a0 a1 a2 a3 b0 b1 b2 b3
 obtain ⟨a0, a1, a2, a3⟩ := (HR2.out.kept HK9.out).all
 obtain ⟨y0, y1, y2, y3⟩ := rrow4' (HV4.out.kept (HKw.out.trans HU9.out))
 obtain ⟨z0, z1, z2, z3⟩ := rrow4' (HV5.out.kept HU9.out)
 have HX : Hid (∀ V, Kept w9 V → Row2 24 V p2 (.int .i64 m) (.int .i64 x) ∧ F.RRow V p9 (.bool s5) (.slice o4 k4 c4) (.bool t5) (.slice i4 j4 d4) ∧ F.RRow V p11 (.bool s5) (.slice o5 k5 c5) (.bool t5) (.slice i5 j5 d5) ∧ Kept W5 V) := fun V hV => ⟨HR2.out.kept (HK9.out.trans hV), HV4.out.kept (HKw.out.trans (HU9.out.trans hV)), HV5.out.kept (HU9.out.trans hV), HU9.out.trans hV⟩
 go_upto_region 11 with fail
 go_region_held3 (fun w' => w'.cell? ⟨p2, 0, none⟩ = some (.int .i64 m) ∧ w'.cell? ⟨p2, 1, none⟩ = some (.int .i64 x) ∧ w'.cell? ⟨p9, 0, none⟩ = some (.bool s5) ∧ w'.cell? ⟨p9, 1, none⟩ = some (.slice o4 k4 c4) ∧ w'.cell? ⟨p9, 2, none⟩ = some (.bool t5) ∧ w'.cell? ⟨p9, 3, none⟩ = some (.slice i4 j4 d4) ∧ w'.cell? ⟨p11, 0, none⟩ = some (.bool s5) ∧ w'.cell? ⟨p11, 1, none⟩ = some (.slice o5 k5 c5) ∧ w'.cell? ⟨p11, 2, none⟩ = some (.bool t5) ∧ w'.cell? ⟨p11, 3, none⟩ = some (.slice i5 j5 d5)) (go_keep) (first
  | (go_at_call 19; refine (F.same_r s5 t5 _ _ _ _ l5 l5' _ (HQ4.out.1.kept (HKw.out.trans (HX.out _ (Kept.refl w9).drew).2.2.2)) (HQ4.out.2.1.kept (HKw.out.trans (HX.out _ (Kept.refl w9).drew).2.2.2)) (HQ5.out.1.kept (HX.out _ (Kept.refl w9).drew).2.2.2) (HQ5.out.2.kept (HX.out _ (Kept.refl w9).drew).2.2.2) (valP_len HQ4.out.2.2).1 (valP_len HQ4.out.2.2).2).mono ?_; rintro e wA ⟨rfl, hkA⟩; have KA := (Kept.refl w9).drew.trans hkA; obtain ⟨aa0, aa1, _, _⟩ := (HX.out _ KA).1.all; obtain ⟨ya0, ya1, ya2, ya3⟩ := rrow4' (HX.out _ KA).2.1; obtain ⟨za0, za1, za2, za3⟩ := rrow4' (HX.out _ KA).2.2.1)
  | (go_at_call 20; refine (Valid_any m x _).mono ?_; rintro e wB ⟨hkB, rfl⟩; have KB := KA.trans hkB; obtain ⟨ab0, ab1, _, _⟩ := (HX.out _ KB).1.all; obtain ⟨yb0, yb1, yb2, yb3⟩ := rrow4' (HX.out _ KB).2.1; obtain ⟨zb0, zb1, zb2, zb3⟩ := rrow4' (HX.out _ KB).2.2.1)
  | (go_at_call 21; refine (RValid_any m x _).mono ?_; rintro e wC ⟨hkC, rfl⟩; have KC := KB.trans hkC; obtain ⟨ac0, ac1, _, _⟩ := (HX.out _ KC).1.all; obtain ⟨yc0, yc1, yc2, yc3⟩ := rrow4' (HX.out _ KC).2.1; obtain ⟨zc0, zc1, zc2, zc3⟩ := rrow4' (HX.out _ KC).2.2.1))
 have HE := hid' (HK.out.trans (HK9.out.trans KC))
 go_wp2_with fail
 go_ret
 exact ⟨HE.out, rfl⟩
end Q
end Go.Proofs.YtboliplhgpndpaaGreatDoor
