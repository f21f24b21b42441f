/- duplicate, divideSmall: a copy of a magnitude, and its division by one limb, in place. -/
import Derived.Test.YthijnnififodjaaDoorTrim
import Derived.Laws.AppendOwnNone
import Derived.Laws.Bits64b
namespace Go.Proofs.YthijnnififodjaaDoor
open Go.RowKit

/-- Limbs as the model's values. -/
def us (l : List Nat) : List Value := l.map (fun x => Value.int .u32 ((x : Nat) : Int))

theorem us_getD (l : List Nat) (j : Nat) (hj : j < l.length) : (us l)[j]? = some (.int .u32 ((l.getD j 0 : Nat) : Int)) := by
  rw [us, List.getElem?_map, List.getElem?_eq_getElem hj, List.getD_eq_getElem?_getD, List.getElem?_eq_getElem hj]; rfl

theorem New.of_owns {B : Nat} {w : World} {v : Value} {n : Nat} {l : List Nat} (h : w.ownsRow B 43 1 v n (us l)) (hb : M.Bd l) : New B w v l := by
  obtain ⟨h1, ⟨rfl, h2⟩ | ⟨g, cap, cur, rfl, hB, hg, hn, _, hs, ht⟩⟩ := h
  · have : l = [] := by
      apply List.length_eq_zero_iff.1
      simpa [us, h2] using h1
    subst this; exact New.nil _ _
  · have hl : l.length = n := by simpa [us] using h1
    subst hl
    refine ⟨hb, .inr ⟨g, cap, fun j => (cur[j]?).getD undef, rfl, hB, hn, ⟨cur, hg, by omega, fun i hi => ?_⟩, fun j hj => ?_⟩⟩
    · have hi' : i < cur.size := by omega
      simp [hi']
    · have e := us_getD l j hj
      rw [← ht, List.getElem?_take_of_lt (by omega), Array.getElem?_toList] at e
      show (cur[j]?).getD undef = _
      rw [e]; rfl

theorem Sl.news {w : World} {b off : Nat} {l : List Nat} (hc : ∀ j, j < l.length → w.cell? ⟨b, off + j, none⟩ = some (.int .u32 ((l.getD j 0 : Nat) : Int))) :
    ∀ j u, (us l)[j]? = some u → w.cell? ((⟨b, off, none⟩ : Addr).add j) = some u := by
  intro j u hu
  have hj : j < l.length := by
    have := (List.getElem?_eq_some_iff.1 hu).1
    simpa [us] using this
  rw [us_getD l j hj] at hu
  cases hu
  by_cases h0 : j = 0
  · subst h0; exact hc 0 hj
  · simp only [Addr.add, if_neg h0]; exact hc j hj

theorem us_oneCell (l : List Nat) : ∀ u ∈ us l, u.oneCell' = true := by
  intro u hu
  rw [us, List.mem_map] at hu
  obtain ⟨x, _, rfl⟩ := hu
  rfl

set_option maxRecDepth 100000 in
set_option maxHeartbeats 1000000 in
theorem dup_some {v : Value} {l : List Nat} (w : World) (h : Sl w v l) (h0 : 0 < l.length) (hl : l.length ≤ 1000000) :
    Calls Tryd.prog 44 #[v] w fun e w' => Kept w w' ∧ ∃ v', e = .returned v' ∧ New w.heap.size w' v' l := by
  obtain ⟨hb, ao, cap, rfl, hx⟩ := h
  obtain ⟨_, b, off, rfl, hlt, hc⟩ := hx h0
  have HC : Hid (∀ j, j < l.length → w.cell? ⟨b, off + j, none⟩ = some (.int .u32 ((l.getD j 0 : Nat) : Int))) := hc
  clear hc hx
  obtain ⟨i0, hi, hz0, hz1, hz2⟩ := info_parts Tryd.info43
  have hm : l.length ≤ maxLen := by unfold maxLen; omega
  go_enter Tryd.func44, Tryd.ntmps44
  go_wp2_with (at_builtin; refine wpList_append_own _ rfl _ _ 22 rfl w.heap.size 43 i0 (.int .u32 0) 1 4 Tryd.underlying22 hi hz0 hz1 hz2 rfl (by decide) _ _ _ rfl (World.ownsRow_nil _ _ _ _) ⟨b, off, none⟩ l.length cap (us l) rfl (by simp [us]) (Sl.news HC.out) (us_oneCell l) (by omega) (by omega) (Nat.le_refl _) ?_)
  intro v' w1 hown hgrow _
  have HN : Hid (New w.heap.size w1 v' l) := New.of_owns (by simpa using hown) hb
  have HK : Hid (Kept w w1) := (Below.refl _ w).grown hgrow (Nat.le_refl _) (fun k hk => by simp [Value.ownBlock] at hk)
  clear hown hgrow
  go_wp2
  go_ret
  exact ⟨HK.out, v', rfl, HN.out⟩

theorem or_low (r x : Nat) (hr : r < 4294967296) (hx : x < 4294967296) : bits .or .u64 ((r : Int) * 4294967296) (x : Int) = (r : Int) * 4294967296 + x := by
  have h := bits_or_u64_nat (r * 4294967296) x (by omega) (by omega)
  have e := Nat.two_pow_add_eq_or_of_lt (i := 32) (b := x) (by simpa using hx) r
  rw [Nat.mul_comm r 4294967296] at h
  rw [show (2 : Nat) ^ 32 = 4294967296 from rfl] at e
  rw [← e] at h
  have h2 : ((4294967296 * r : Nat) : Int) = (r : Int) * 4294967296 := by omega
  rw [h2] at h
  rw [h]; omega

theorem grown_set {w w' : World} {b : Nat} (h : w.grownBy w' (some b)) (k : Nat) (v : Value) : w.grownBy (w'.setCell ⟨b, k, none⟩ v) (some b) :=
  ⟨h.os, h.tape, h.output, by have := h.size; simpa [World.setCell] using this, fun j hj hne => (Below.heap_setCell _ _ _ _ (by intro e; apply hne; rw [e])).trans (h.block j hj hne)⟩

theorem small_step {l o : List Nat} {k r by_ x s : Nat} (hk : 0 < k) (hkl : k ≤ l.length) (hol : o.length = l.length) (hx : x = l.getD (k - 1) 0) (hs : s = r * 4294967296 + x)
    (h : M.val (l.drop k) = by_ * M.val (o.drop k) + r) :
    M.val (l.drop (k - 1)) = by_ * M.val ((o.set (k - 1) (s / by_)).drop (k - 1)) + s % by_ := by
  rw [M.drop_getD l (k - 1) (by omega), M.drop_getD _ (k - 1) (by rw [List.length_set]; omega), show k - 1 + 1 = k by omega, h, getD_set _ _ _ _ (by omega), if_pos rfl, List.drop_set_of_lt (by omega), ← hx]
  have e1 := Nat.div_add_mod s by_
  have e2 : by_ * (s / by_ + 4294967296 * M.val (o.drop k)) = by_ * (s / by_) + 4294967296 * (by_ * M.val (o.drop k)) := by
    rw [Nat.mul_add, Nat.mul_left_comm]
  rw [e2]
  omega

set_option maxHeartbeats 1000000 in
theorem small_any (b N : Nat) (f : Nat → Value) (l : List Nat) (d : Nat) (w : World) (hb : M.Bd l) (hd : 0 < d) (hd2 : d < 4294967296) (hl : l.length ≤ 1000000) (hN : l.length ≤ N)
    (hr : w.rowIs b 43 N f) (hf : ∀ j, j < l.length → f j = .int .u32 ((l.getD j 0 : Nat) : Int)) :
    Calls Tryd.prog 45 #[.slice (some ⟨b, 0, none⟩) l.length N, .int .u32 (d : Int)] w fun e w' => w.grownBy w' (some b) ∧ ∃ q r, e = .returned (.int .u32 ((r : Nat) : Int)) ∧
      New b w' (.slice (some ⟨b, 0, none⟩) l.length N) q ∧ q.length = l.length ∧ M.val l = d * M.val q + r ∧ r < d := by
  obtain ⟨n, hn⟩ : ∃ n, n = l.length := ⟨_, rfl⟩
  rw [← hn] at hl hN hf ⊢
  have HL : Hid (n = l.length) := hn
  have HF : Hid (_) := hf
  have HR : Hid (_) := hr
  clear hn hf hr
  go_enter Tryd.func45, Tryd.ntmps45
  go_wp2
  go_loopw [5, 6] (fun vr vi wr => ∃ (k r : Nat) (o : List Nat), k ≤ n ∧ r < d ∧ vi = .int .i64 ((k : Int) - 1) ∧ vr = .int .u64 (r : Int) ∧ Hid (o.length = l.length ∧ M.Bd o ∧ (∀ j, j < k → o.getD j 0 = l.getD j 0) ∧ M.val (l.drop k) = d * M.val (o.drop k) + r) ∧
      Hid (∃ g, wr.rowIs b 43 N g ∧ ∀ j, j < n → g j = .int .u32 ((o.getD j 0 : Nat) : Int)) ∧ Hid (w.grownBy wr (some b))) (fun _ vi _ => (intOf vi + 1).toNat)
  case atStart => exact ⟨n, 0, l, Nat.le_refl _, hd, rfl, rfl, ⟨rfl, hb, fun _ _ => rfl, by rw [List.drop_of_length_le (by rw [HL.out]; exact Nat.le_refl _)]; simp [M.val]⟩, ⟨f, HR.out, HF.out⟩, World.grownBy.refl _ _⟩
  case round =>
    obtain ⟨k, r, o, hk, hrd, rfl, rfl, ho, hrow, hgr⟩ := hrel
    obtain ⟨g, hrw, hg⟩ := hrow.out
    by_cases h0 : k = 0
    · subst h0
      clear hrw hg
      go_wp2
      go_ret
      obtain ⟨g, hrw, hg⟩ := hrow.out
      refine ⟨hgr.out, o, r, rfl, ⟨ho.out.2.1, .inr ⟨b, N, g, by rw [ho.out.1, ← HL.out], Nat.le_refl _, by rw [ho.out.1, ← HL.out]; exact hN, hrw, fun j hj => hg j (by rw [HL.out, ← ho.out.1]; exact hj)⟩⟩, by rw [ho.out.1, HL.out], by simpa using ho.out.2.2.2, hrd⟩
    · have hck : wr.cell? ⟨b, k - 1, none⟩ = some (.int .u32 ((l.getD (k - 1) 0 : Nat) : Int)) := by rw [hrw.cell (by omega), hg _ (by omega), ho.out.2.2.1 _ (by omega)]
      have hfz : wr.frozen? ⟨b, k - 1, none⟩ = false := hrw.frozen _
      have hbd := hb.getD (k - 1)
      obtain ⟨x, hx⟩ : ∃ x, x = l.getD (k - 1) 0 := ⟨_, rfl⟩
      rw [← hx] at hck hbd
      have HX : Hid (x = l.getD (k - 1) 0) := hx
      have h1 : 1 ≤ k := by omega
      have hor := or_low r x (by omega) hbd
      clear hx hrw hg
      go_wp2
      go_roundw
      case rel =>
        obtain ⟨g, hrw, hg⟩ := hrow.out
        have hol : o.length = n := by rw [ho.out.1, ← HL.out]
        have hq : (r * 4294967296 + x) / d < 4294967296 := by
          rw [Nat.div_lt_iff_lt_mul hd]
          have : r * 4294967296 + 4294967296 ≤ d * 4294967296 := by have := Nat.mul_le_mul_right 4294967296 (show r + 1 ≤ d from hrd); omega
          rw [Nat.mul_comm 4294967296 d]; omega
        refine ⟨k - 1, (r * 4294967296 + x) % d, o.set (k - 1) ((r * 4294967296 + x) / d), by omega, Nat.mod_lt _ hd, by go_num, by simp, ⟨by rw [List.length_set]; exact ho.out.1, Bd_set ho.out.2.1 _ _ hq, fun j hj => ?_, small_step h1 (by rw [← HL.out]; exact hk) ho.out.1 HX.out rfl ho.out.2.2.2⟩, ⟨_, hrw.set _ _, fun j hj => ?_⟩, grown_set hgr.out _ _⟩
        · rw [getD_set _ _ _ _ (by omega), if_neg (by omega)]; exact ho.out.2.2.1 j (by omega)
        · rw [getD_set _ _ _ _ (by omega)]
          by_cases e : j = k - 1
          · rw [if_pos e, if_pos e]
            have e2 : ((r : Int) * 4294967296 + (x : Int)) / (d : Int) = (((r * 4294967296 + x) / d : Nat) : Int) := by simp
            rw [e2]
            generalize (r * 4294967296 + x) / d = qq at hq ⊢
            congr 1
            omega
          · rw [if_neg e, if_neg e]; exact hg j hj
      case measure => simp [intOf]; omega

end Go.Proofs.YthijnnififodjaaDoor
