/- groupsOf: the digits of a magnitude in groups of nine. -/
import Derived.Test.YthijnnififodjaaDoorDup
import Derived.Deep.LoopGhost
namespace Go.Proofs.YthijnnififodjaaDoor
open Go.RowKit

/-- The number that groups of nine digits tell, the lowest first. -/
def val9 : List Nat → Nat
  | [] => 0
  | x :: l => x + 1000000000 * val9 l

theorem val9_snoc (p : List Nat) (x : Nat) : val9 (p ++ [x]) = val9 p + 1000000000 ^ p.length * x := by
  induction p with
  | nil => simp [val9]
  | cons y l ih =>
    simp only [List.cons_append, val9, ih, List.length_cons, Nat.pow_succ]
    rw [Nat.mul_add, ← Nat.mul_assoc, Nat.mul_comm 1000000000 (1000000000 ^ l.length)]; omega

theorem cell_new (w : World) (x : Value) (t : TypeId) : ∀ j u, ([x] : List Value)[j]? = some u → (w.alloc (.cells #[x] t)).cell? ((⟨w.heap.size, 0, none⟩ : Addr).add j) = some u := by
  intro j u hj
  match j, hj with
  | 0, hj => simp at hj; subst hj; simp [Addr.add]

theorem groups_len {l : List Nat} {n : Nat} (hb : M.Bd l) (h : 1000000000 ^ n ≤ M.val l) : n ≤ 2 * l.length := by
  have h1 := M.val_lt hb
  have h2 : 4294967296 ^ l.length ≤ 1000000000 ^ (2 * l.length) := by
    rw [Nat.pow_mul]; exact Nat.pow_le_pow_left (by decide) _
  have h3 : 1000000000 ^ n < 1000000000 ^ (2 * l.length) := by omega
  exact Nat.le_of_lt ((Nat.pow_lt_pow_iff_right (by decide)).1 h3)

theorem groups_step {gs r q : List Nat} {rem V : Nat} (h : val9 gs + 1000000000 ^ gs.length * M.val r = V) (hq : M.val r = 1000000000 * M.val q + rem) :
    val9 (gs ++ [rem]) + 1000000000 ^ (gs ++ [rem]).length * M.val q = V := by
  rw [val9_snoc, List.length_append, List.length_singleton, Nat.pow_succ, Nat.mul_assoc, ← h, hq, Nat.mul_add]
  omega

theorem New.at_block {B b N len : Nat} {w w' : World} {l : List Nat} (h : New B w (.slice (some ⟨b, 0, none⟩) len N) l) (e : w'.heap[b]? = w.heap[b]?) : New B w' (.slice (some ⟨b, 0, none⟩) len N) l := by
  obtain ⟨hb, ⟨hv, _⟩ | ⟨b', N', f, hv, hB, hN, hr, hf⟩⟩ := h
  · simp at hv
  · simp only [Value.slice.injEq, Option.some.injEq, Addr.mk.injEq] at hv
    obtain ⟨⟨rfl, _, _⟩, rfl, rfl⟩ := hv
    exact ⟨hb, .inr ⟨b, N, f, rfl, hB, hN, hr.of_block e, hf⟩⟩

theorem New.lt {B b N len : Nat} {w : World} {l : List Nat} (h : New B w (.slice (some ⟨b, 0, none⟩) len N) l) : b < w.heap.size ∧ ∃ f, w.rowIs b 43 N f ∧ ∀ j, j < l.length → f j = .int .u32 ((l.getD j 0 : Nat) : Int) := by
  obtain ⟨hb, ⟨hv, _⟩ | ⟨b', N', f, hv, hB, hN, hr, hf⟩⟩ := h
  · simp at hv
  · simp only [Value.slice.injEq, Option.some.injEq, Addr.mk.injEq] at hv
    obtain ⟨⟨rfl, _, _⟩, rfl, rfl⟩ := hv
    exact ⟨hr.lt, f, hr, hf⟩

theorem us_snoc (gs : List Nat) (x : Nat) : us (gs ++ [x]) = us gs ++ [.int .u32 (x : Int)] := by simp [us]

set_option maxRecDepth 100000 in
set_option maxHeartbeats 2000000 in
theorem groups_any {v : Value} {l : List Nat} (w : World) (h : Sl w v l) (ht : M.Tr l) (h0 : 0 < l.length) (hl : l.length ≤ 1000) :
    Calls Tryd.prog 41 #[v] w fun e w' => Kept w w' ∧ ∃ v' gs, e = .returned v' ∧ New w.heap.size w' v' gs ∧ 0 < gs.length ∧ (∀ x ∈ gs, x < 1000000000) ∧ gs.getD (gs.length - 1) 0 ≠ 0 ∧ val9 gs = M.val l ∧ gs.length ≤ 2 * l.length + 1 := by
  have HS : Hid (Sl w v l) := h
  have HT : Hid (M.Tr l) := ht
  obtain ⟨bdl, ao, cap, rfl, _⟩ := h
  clear ht
  obtain ⟨i0, hi, hz0, hz1, hz2⟩ := info_parts Tryd.info43
  go_enter Tryd.func41, Tryd.ntmps41
  go_wp2_with fail
  refine (dup_some w HS.out h0 (by omega)).mono ?_
  rintro e w1 ⟨hk1, v1, rfl, hn1⟩
  obtain ⟨b1, N1, f1, rfl, hB1, hN1, hr1, hf1⟩ : ∃ (b N : Nat) (f : Nat → Value), v1 = .slice (some ⟨b, 0, none⟩) l.length N ∧ w.heap.size ≤ b ∧ l.length ≤ N ∧ w1.rowIs b 43 N f ∧ ∀ j, j < l.length → f j = .int .u32 ((l.getD j 0 : Nat) : Int) := by
    obtain ⟨_, ⟨_, h⟩ | h⟩ := hn1
    · rw [h] at h0; simp at h0
    · exact h
  have HK1 : Hid (Kept w w1) := hk1
  have HB1 : Hid (w.heap.size ≤ b1 ∧ b1 < w1.heap.size) := ⟨hB1, hr1.lt⟩
  have HR1 : Hid (w1.rowIs b1 43 N1 f1 ∧ ∀ j, j < l.length → f1 j = .int .u32 ((l.getD j 0 : Nat) : Int)) := ⟨hr1, hf1⟩
  clear hk1 hn1 hr1 hf1 hB1
  go_wp2
  go_loopg [3, 4] (M.val l) (fun g vg vr wr => ∃ (gs r : List Nat), g = M.val r ∧ r.length ≤ l.length ∧ vr = (if r.length = 0 then .slice none 0 0 else .slice (some ⟨b1, 0, none⟩) r.length N1) ∧
      Hid (wr.ownsRow w1.heap.size 43 1 vg gs.length (us gs)) ∧ Hid (∃ f, wr.rowIs b1 43 N1 f ∧ ∀ j, j < r.length → f j = .int .u32 ((r.getD j 0 : Nat) : Int)) ∧
      Hid (M.Bd r ∧ M.Tr r ∧ (∀ x ∈ gs, x < 1000000000) ∧ val9 gs + 1000000000 ^ gs.length * M.val r = M.val l ∧ gs.length ≤ 2 * l.length + 1 ∧ (r = [] → 0 < gs.length ∧ gs.getD (gs.length - 1) 0 ≠ 0)) ∧ Hid (Kept w wr ∧ w1.heap.size ≤ wr.heap.size))
  case atStart =>
    exact ⟨[], l, rfl, Nat.le_refl _, by rw [if_neg (by omega)], World.ownsRow_nil _ _ _ _, ⟨f1, HR1.out.1, HR1.out.2⟩, ⟨bdl, HT.out, (fun x hx => by cases hx), by simp [val9], by simp, (fun e => by rw [e] at h0; simp at h0)⟩, HK1.out, Nat.le_refl _⟩
  case round =>
    obtain ⟨gs, r, rfl, hrl, rfl, hown, hrow, hnum, hkept⟩ := hrel
    by_cases hr0 : r.length = 0
    · rw [if_pos hr0]
      go_wp2
      go_ret
      have e : r = [] := List.length_eq_zero_iff.1 hr0
      have hn := hnum.out
      refine ⟨hkept.out.1, _, gs, rfl, (New.of_owns hown.out (fun x hx => by have := hn.2.2.1 x hx; omega)).mono HK1.out.size, (hn.2.2.2.2.2 e).1, hn.2.2.1, (hn.2.2.2.2.2 e).2, ?_, hn.2.2.2.2.1⟩
      have := hn.2.2.2.1
      rw [e] at this
      simpa [M.val] using this
    · rw [if_neg hr0]
      obtain ⟨f, hrw, hf⟩ := hrow.out
      have hsm := small_any b1 N1 f r 1000000000 wr hnum.out.1 (by omega) (by omega) (by omega) (by omega) hrw hf
      rw [show ((1000000000 : Nat) : Int) = 1000000000 from rfl] at hsm
      have HSM : Hid (Calls Tryd.prog 45 #[.slice (some ⟨b1, 0, none⟩) r.length N1, .int .u32 1000000000] wr fun e w' => wr.grownBy w' (some b1) ∧ ∃ q r', e = .returned (.int .u32 ((r' : Nat) : Int)) ∧
        New b1 w' (.slice (some ⟨b1, 0, none⟩) r.length N1) q ∧ q.length = r.length ∧ M.val r = 1000000000 * M.val q + r' ∧ r' < 1000000000) := hsm
      have hpos : 0 < M.val r := M.val_pos hnum.out.2.1 (fun e => by rw [e] at hr0; simp at hr0)
      have hglen : gs.length ≤ 2 * l.length := groups_len bdl (by
        have h1 := hnum.out.2.2.2.1
        have h2 : 1000000000 ^ gs.length * 1 ≤ 1000000000 ^ gs.length * M.val r := Nat.mul_le_mul_left _ hpos
        omega)
      clear hsm hrw hf
      have hml : gs.length + 1 ≤ maxLen := by unfold maxLen; omega
      go_wp2_with fail
      refine HSM.out.mono ?_
      rintro e w2 ⟨hg2, q, rem, rfl, hnq, hql, hqv, hrd⟩
      have hown2 := hown.out.kept hg2 (by
        cases hvb : Value.ownBlock u3 with
        | none => exact .inl rfl
        | some k =>
          right
          have hk := (hown.out.lt k hvb).1
          have := HB1.out.2
          intro e
          simp at e
          omega)
      have HOW : Hid (w2.ownsRow w1.heap.size 43 1 u3 gs.length (us gs)) := hown2
      have HQ : Hid (New b1 w2 (.slice (some ⟨b1, 0, none⟩) r.length N1) q ∧ q.length = r.length ∧ M.val r = 1000000000 * M.val q + rem ∧ rem < 1000000000) := ⟨hnq, hql, hqv, hrd⟩
      have HK2 : Hid (Kept w w2 ∧ w1.heap.size ≤ w2.heap.size) := ⟨Below.grown hkept.out.1 hg2 hkept.out.1.size (fun k hk => by cases hk; exact HB1.out.1), Nat.le_trans hkept.out.2 hg2.size⟩
      have hwb : w1.heap.size ≤ (w2.alloc (.cells #[.int .u32 (rem : Int)] 43)).heap.size := by have := HK2.out.2; simp; omega
      clear hown2 hnq hql hqv hg2 HSM
      go_wp2_with (at_builtin; refine wpList_append_own _ rfl _ _ 22 rfl w1.heap.size 43 i0 (.int .u32 0) 1 4 Tryd.underlying22 hi hz0 hz1 hz2 rfl (by decide) _ _ _ rfl (HOW.out.alloc _) ⟨w2.heap.size, 0, none⟩ 1 1 [.int .u32 (rem : Int)] rfl rfl (cell_new w2 _ _) (fun u hu => by simp at hu; subst hu; rfl) (by omega) (by omega) (by exact hwb) ?_)
      intro v' w3 hown' hgrow _
      have hob : ∀ k, Value.ownBlock u3 = some k → w1.heap.size ≤ k := fun k hk => (HOW.out.lt k hk).1
      have HOW3 : Hid (w3.ownsRow w1.heap.size 43 1 v' (gs.length + 1) (us (gs ++ [rem]))) := by
        show World.ownsRow _ _ _ _ _ _ _
        rw [us_snoc]; exact hown'
      have HK3 : Hid (Kept w w3 ∧ w1.heap.size ≤ w3.heap.size ∧ New b1 w3 (.slice (some ⟨b1, 0, none⟩) r.length N1) q) := by
        refine ⟨Below.grown (HK2.out.1.alloc _) hgrow ((HK2.out.1.alloc _).size) (fun k hk => Nat.le_trans HK1.out.size (hob k hk)), Nat.le_trans hwb hgrow.size, HQ.out.1.at_block ?_⟩
        have hlt := HQ.out.1.lt.1
        rw [hgrow.block b1 (by simp; omega) (fun e => by have := hob b1 e.symm; have := HB1.out.2; omega)]
        exact Below.heap_alloc _ _ _ hlt
      clear hown' hgrow hob hwb
      go_wp2_with fail
      have htr := trim_raw (some ⟨b1, 0, none⟩) N1 q w3 (by rw [HQ.out.2.1]; exact HK3.out.2.2.sl) (by rw [HQ.out.2.1]; omega)
      rw [HQ.out.2.1] at htr
      refine htr.mono ?_
      rintro e w4 ⟨rfl, n, hn, htn, hvn, rfl⟩
      clear htr
      have HTN : Hid (n ≤ r.length ∧ M.Tr (q.take n) ∧ M.val (q.take n) = M.val q) := ⟨hn, htn, hvn⟩
      clear hn htn hvn
      obtain ⟨vv, hvv⟩ : ∃ vv, vv = (if n = 0 then Value.slice none 0 0 else .slice (some ⟨b1, 0, none⟩) n N1) := ⟨_, rfl⟩
      rw [← hvv]
      have HVV : Hid (vv = (if n = 0 then Value.slice none 0 0 else .slice (some ⟨b1, 0, none⟩) n N1)) := hvv
      clear hvv
      go_wp2
      have hq := HQ.out
      have hvn := HTN.out.2.2
      have etl : (q.take n).length = n := by rw [List.length_take, hq.2.1]; have := HTN.out.1; omega
      go_roundg (M.val (q.take n))
      case measure => rw [hvn]; omega
      case rel =>
        obtain ⟨_, f', hrw', hf'⟩ := HK3.out.2.2.lt
        refine ⟨gs ++ [rem], q.take n, rfl, by rw [etl]; have := HTN.out.1; omega, by rw [etl]; exact HVV.out, by rw [List.length_append]; exact HOW3.out, ⟨f', hrw', fun j hj => ?_⟩, ⟨hq.1.1.take n, HTN.out.2.1, fun x hx => ?_, ?_, by simp; omega, fun e => ⟨by simp, ?_⟩⟩, HK3.out.1, HK3.out.2.1⟩
        · rw [etl] at hj
          rw [hf' j (by rw [hq.2.1]; have := HTN.out.1; omega), List.getD_eq_getElem?_getD, List.getD_eq_getElem?_getD, List.getElem?_take_of_lt hj]
        · rcases List.mem_append.1 hx with h | h
          · exact hnum.out.2.2.1 x h
          · simp at h; omega
        · rw [hvn]; exact groups_step hnum.out.2.2.2.1 hq.2.2.1
        · rw [e] at hvn
          have : M.val q = 0 := by rw [← hvn]; rfl
          have hrem : rem = M.val r := by rw [hq.2.2.1, this]; omega
          simp
          omega

end Go.Proofs.YthijnnififodjaaDoor
