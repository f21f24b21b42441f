/- What a slice of int reads as, as digits in base 65536: the twin of the limbs' reading, for package shuntref01. -/
import Derived.Test.YthijnnififodjaaDoorDmath
import Derived.Test.YthijnnififodjaaDoorDup
import Derived.Test.YthijnnififodjaaDoorCmp
namespace Go.Proofs.YthijnnififodjaaDoor
open Go.RowKit
theorem infoI : (Tryd.prog.info? 3).map (fun i => (i.zero, i.size, i.bytes)) = some (some (.int .i64 0), 1, 8) := by kernel_rfl
namespace D

def Sl (w : World) (v : Value) (l : List Nat) : Prop :=
  D.Bd l ∧ ∃ (ao : Option Addr) (cap : Nat), v = .slice ao l.length cap ∧
    (0 < l.length → l.length ≤ cap ∧ ∃ b off : Nat, ao = some ⟨b, off, none⟩ ∧ b < w.heap.size ∧ ∀ j, j < l.length → w.cell? ⟨b, off + j, none⟩ = some (.int .i64 ((l.getD j 0 : Nat) : Int)))

theorem Sl.bd {w : World} {v : Value} {l : List Nat} (h : Sl w v l) : D.Bd l := h.1

theorem Sl.kept {w w' : World} {v : Value} {l : List Nat} (h : Sl w v l) (k : Kept w w') : Sl w' v l := by
  obtain ⟨hb, ao, cap, rfl, hx⟩ := h
  refine ⟨hb, ao, cap, rfl, fun h0 => ?_⟩
  obtain ⟨h1, b, off, rfl, hlt, hc⟩ := hx h0
  refine ⟨h1, b, off, rfl, Nat.lt_of_lt_of_le hlt k.size, fun j hj => ?_⟩
  rw [Below.cell k (p := ⟨b, off + j, none⟩) hlt]
  exact hc j hj

theorem Sl.nil (w : World) (ao : Option Addr) (cap : Nat) : Sl w (.slice ao 0 cap) [] :=
  ⟨D.Bd_nil, ao, cap, rfl, fun h => absurd h (by decide)⟩

theorem Sl.of_row {w : World} {b N cap n : Nat} {t : TypeId} {p : List Nat} (h : w.rowIs b t N (fun j => .int .i64 ((p.getD j 0 : Nat) : Int))) (hp : D.Bd p) (hn : n = p.length) (hN : n ≤ N) (hc : n ≤ cap) :
    Sl w (.slice (some ⟨b, 0, none⟩) n cap) p := by
  subst hn
  exact ⟨hp, _, cap, rfl, fun _ => ⟨hc, b, 0, rfl, h.lt, fun j hj => by rw [Nat.zero_add]; exact h.cell (by omega)⟩⟩

def New (B : Nat) (w : World) (v : Value) (l : List Nat) : Prop :=
  D.Bd l ∧ ((v = .slice none 0 0 ∧ l = []) ∨ ∃ (b N : Nat) (f : Nat → Value), v = .slice (some ⟨b, 0, none⟩) l.length N ∧ B ≤ b ∧ l.length ≤ N ∧ w.rowIs b 3 N f ∧ ∀ j, j < l.length → f j = .int .i64 ((l.getD j 0 : Nat) : Int))

theorem New.sl {B : Nat} {w : World} {v : Value} {l : List Nat} (h : New B w v l) : Sl w v l := by
  obtain ⟨hb, ⟨rfl, rfl⟩ | ⟨b, N, f, rfl, _, hN, hr, hf⟩⟩ := h
  · exact Sl.nil _ _ _
  · exact ⟨hb, _, N, rfl, fun _ => ⟨hN, b, 0, rfl, hr.lt, fun j hj => by rw [Nat.zero_add, hr.cell (by omega), hf j hj]⟩⟩

theorem New.kept {B : Nat} {w w' : World} {v : Value} {l : List Nat} (h : New B w v l) (k : Kept w w') : New B w' v l := by
  obtain ⟨hb, ⟨rfl, rfl⟩ | ⟨b, N, f, rfl, hB, hN, hr, hf⟩⟩ := h
  · exact ⟨hb, .inl ⟨rfl, rfl⟩⟩
  · exact ⟨hb, .inr ⟨b, N, f, rfl, hB, hN, hr.of_block (k.block b hr.lt), hf⟩⟩

theorem New.mono {B B' : Nat} {w : World} {v : Value} {l : List Nat} (h : New B w v l) (hB : B' ≤ B) : New B' w v l := by
  obtain ⟨hb, ⟨rfl, rfl⟩ | ⟨b, N, f, rfl, h1, hN, hr, hf⟩⟩ := h
  · exact ⟨hb, .inl ⟨rfl, rfl⟩⟩
  · exact ⟨hb, .inr ⟨b, N, f, rfl, by omega, hN, hr, hf⟩⟩

theorem New.nil (B : Nat) (w : World) : New B w (.slice none 0 0) [] := ⟨D.Bd_nil, .inl ⟨rfl, rfl⟩⟩

theorem New.of_row {B : Nat} {w : World} {b N n : Nat} {p : List Nat} (h : w.rowIs b 3 N (fun j => .int .i64 ((p.getD j 0 : Nat) : Int))) (hp : D.Bd p) (hn : n = p.length) (hN : n ≤ N) (hB : B ≤ b) :
    New B w (.slice (some ⟨b, 0, none⟩) n N) p := by
  subst hn; exact ⟨hp, .inr ⟨b, N, _, rfl, hB, hN, h, fun _ _ => rfl⟩⟩

theorem New.len {B : Nat} {w : World} {ao : Option Addr} {n c : Nat} {l : List Nat} (h : New B w (.slice ao n c) l) : n = l.length := by
  obtain ⟨hb, ⟨hv, rfl⟩ | ⟨b', N', f, hv, hB, hN, hr, hf⟩⟩ := h
  · simp at hv; simp [hv]
  · simp at hv; exact hv.2.1

theorem row_snoc {w : World} {b N : Nat} {p : List Nat} (h : w.rowIs b 3 N (fun j => .int .i64 ((p.getD j 0 : Nat) : Int))) (k : Nat) (hk : k = p.length) (x : Nat) (y : Int) (hy : y = x) :
    (w.setCell ⟨b, k, none⟩ (.int .i64 y)).rowIs b 3 N (fun j => .int .i64 (((p ++ [x]).getD j 0 : Nat) : Int)) := by
  subst hy hk
  refine (h.set p.length (.int .i64 x)).congr (fun j _ => ?_)
  rw [D.getD_snoc]
  split <;> rfl

theorem row_made (w : World) (n : Nat) : (w.alloc (.cells (madeCells #[.int .i64 0] n) 3)).rowIs w.heap.size 3 n (fun j => .int .i64 ((([] : List Nat).getD j 0 : Nat) : Int)) :=
  (World.rowIs_made w (.int .i64 0) n 3).congr (fun _ _ => by simp)

theorem New.shape {B : Nat} {w : World} {v : Value} {l : List Nat} (h : New B w v l) : ∃ ao cap, v = .slice ao l.length cap := by
  obtain ⟨_, ⟨rfl, rfl⟩ | ⟨b, N, f, rfl, _⟩⟩ := h
  · exact ⟨_, _, rfl⟩
  · exact ⟨_, _, rfl⟩

theorem New.other {B : Nat} {w : World} {v : Value} {l : List Nat} (h : New B w v l) {p : Addr} (hp : p.block < B) (u : Value) : New B (w.setCell p u) v l := by
  obtain ⟨hb, ⟨rfl, rfl⟩ | ⟨b, N, f, rfl, hB, hN, hr, hf⟩⟩ := h
  · exact ⟨hb, .inl ⟨rfl, rfl⟩⟩
  · exact ⟨hb, .inr ⟨b, N, f, rfl, hB, hN, hr.setOther (by omega) u, hf⟩⟩

theorem val_set (o : List Nat) : ∀ (m v : Nat), m < o.length → D.val (o.set m v) + 65536 ^ m * o.getD m 0 = D.val o + 65536 ^ m * v := by
  induction o with
  | nil => intro m v h; simp at h
  | cons x o ih =>
    intro m v h
    cases m with
    | zero => simp [D.val]; omega
    | succ m =>
      have := ih m v (by simpa using h)
      simp only [List.set_cons_succ, D.val, Nat.pow_succ, List.getD_cons_succ]
      have e1 : 65536 ^ m * 65536 * o.getD m 0 = 65536 * (65536 ^ m * o.getD m 0) := by rw [Nat.mul_comm (65536 ^ m) 65536, Nat.mul_assoc]
      have e2 : 65536 ^ m * 65536 * v = 65536 * (65536 ^ m * v) := by rw [Nat.mul_comm (65536 ^ m) 65536, Nat.mul_assoc]
      omega

theorem Bd_set {o : List Nat} (h : D.Bd o) (m v : Nat) (hv : v < 65536) : D.Bd (o.set m v) := by
  intro x hx
  rcases List.mem_or_eq_of_mem_set hx with h1 | h1
  · exact h x h1
  · omega

theorem Bd_replicate (n : Nat) : D.Bd (List.replicate n 0) := by
  intro x hx; rw [List.mem_replicate] at hx; omega

theorem val_replicate (n : Nat) : D.val (List.replicate n 0) = 0 := by
  induction n with
  | zero => rfl
  | succ n ih => rw [List.replicate_succ, D.val, ih]

theorem row_set {w : World} {b N : Nat} {o : List Nat} (h : w.rowIs b 3 N (fun j => .int .i64 ((o.getD j 0 : Nat) : Int))) (m : Nat) (hm : m < o.length) (v : Nat) (y : Int) (hy : y = v) :
    (w.setCell ⟨b, m, none⟩ (.int .i64 y)).rowIs b 3 N (fun j => .int .i64 (((o.set m v).getD j 0 : Nat) : Int)) := by
  subst hy
  refine (h.set m (.int .i64 v)).congr (fun j _ => ?_)
  rw [getD_set _ _ _ _ hm]
  split <;> rfl

theorem make_digits (n : Nat) (hn : n ≤ 1000000) (w : World) :
    (Instr.makeSlice 48 (.int .i64 (n : Int)) (.int .i64 (n : Int))).run Tryd.prog w = .ok (.slice (some ⟨w.heap.size, 0, none⟩) n n) (w.alloc (.cells (madeCells #[.int .i64 0] n) 3)) :=
  run_make_row' 48 3 (.int .i64 0) 8 Tryd.underlying48 infoI rfl .i64 .i64 n (by omega) (by omega) w

def us (l : List Nat) : List Value := l.map (fun x => Value.int .i64 ((x : Nat) : Int))

theorem us_getD (l : List Nat) (j : Nat) (hj : j < l.length) : (us l)[j]? = some (.int .i64 ((l.getD j 0 : Nat) : Int)) := by
  rw [us, List.getElem?_map, List.getElem?_eq_getElem hj, List.getD_eq_getElem?_getD, List.getElem?_eq_getElem hj]; rfl

theorem New.of_owns {B : Nat} {w : World} {v : Value} {n : Nat} {l : List Nat} (h : w.ownsRow B 3 1 v n (us l)) (hb : D.Bd l) : New B w v l := by
  obtain ⟨h1, ⟨rfl, h2⟩ | ⟨g, cap, cur, rfl, hB, hg, hn, _, hs, ht⟩⟩ := h
  · have : l = [] := by
      apply List.length_eq_zero_iff.1
      simpa [us, h2] using h1
    subst this; exact New.nil _ _
  · have hl : l.length = n := by simpa [us] using h1
    subst hl
    refine ⟨hb, .inr ⟨g, cap, fun j => (cur[j]?).getD undef, rfl, hB, hn, ⟨cur, hg, by omega, fun i hi => ?_⟩, fun j hj => ?_⟩⟩
    · have hi' : i < cur.size := by omega
      simp [hi']
    · have e := us_getD l j hj
      rw [← ht, List.getElem?_take_of_lt (by omega), Array.getElem?_toList] at e
      show (cur[j]?).getD undef = _
      rw [e]; rfl

theorem Sl.news {w : World} {b off : Nat} {l : List Nat} (hc : ∀ j, j < l.length → w.cell? ⟨b, off + j, none⟩ = some (.int .i64 ((l.getD j 0 : Nat) : Int))) :
    ∀ j u, (us l)[j]? = some u → w.cell? ((⟨b, off, none⟩ : Addr).add j) = some u := by
  intro j u hu
  have hj : j < l.length := by
    have := (List.getElem?_eq_some_iff.1 hu).1
    simpa [us] using this
  rw [us_getD l j hj] at hu
  cases hu
  by_cases h0 : j = 0
  · subst h0; exact hc 0 hj
  · simp only [Addr.add, if_neg h0]; exact hc j hj

theorem us_oneCell (l : List Nat) : ∀ u ∈ us l, u.oneCell' = true := by
  intro u hu
  rw [us, List.mem_map] at hu
  obtain ⟨x, _, rfl⟩ := hu
  rfl

theorem us_snoc (gs : List Nat) (x : Nat) : us (gs ++ [x]) = us gs ++ [.int .i64 (x : Int)] := by simp [us]

theorem owns_of_row {w : World} {B b N n : Nat} {f : Nat → Value} {o : List Nat} (h : w.rowIs b 3 N f) (hf : ∀ j, j < n → f j = .int .i64 ((o.getD j 0 : Nat) : Int)) (ho : o.length = n) (hn : n ≤ N) (hN : N ≤ maxLen) (hB : B ≤ b) :
    w.ownsRow B 3 1 (.slice (some ⟨b, 0, none⟩) n N) n (us o) := by
  obtain ⟨c, hc, hs, hcc⟩ := h
  refine ⟨by simp [us, ho], .inr ⟨b, N, c, rfl, hB, hc, hn, hN, by omega, ?_⟩⟩
  apply List.ext_getElem?
  intro j
  by_cases hj : j < n
  · rw [List.getElem?_take_of_lt (by omega), us_getD o j (by omega), ← hf j hj, Array.getElem?_toList, hcc j (by omega)]
  · rw [List.getElem?_eq_none (by rw [List.length_take, Array.length_toList]; omega), List.getElem?_eq_none (by simp [us]; omega)]

theorem row_of_owns {w : World} {B n : Nat} {v : Value} {l : List Nat} (h : w.ownsRow B 3 1 v n (us l)) (hn : 0 < n) : ∃ b N f, v = .slice (some ⟨b, 0, none⟩) n N ∧ B ≤ b ∧ n ≤ N ∧ N ≤ maxLen ∧ w.rowIs b 3 N f ∧ ∀ j, j < n → f j = .int .i64 ((l.getD j 0 : Nat) : Int) := by
  obtain ⟨h1, ⟨_, h0⟩ | ⟨b, N, cur, rfl, hB, hg, hnN, hm, hs, ht⟩⟩ := h
  · omega
  · refine ⟨b, N, fun j => (cur[j]?).getD undef, rfl, hB, hnN, hm, ⟨cur, hg, by omega, fun i hi => ?_⟩, fun j hj => ?_⟩
    · have hi' : i < cur.size := by omega
      simp [hi']
    · have hl : l.length = n := by simpa [us] using h1
      have e := us_getD l j (by omega)
      rw [← ht, List.getElem?_take_of_lt (by omega), Array.getElem?_toList] at e
      show (cur[j]?).getD undef = _
      rw [e]; rfl

theorem val_lt_of_top {a b : List Nat} {k : Nat} (ha : D.Bd a) (hk : 0 < k) (hka : k ≤ a.length) (hl : a.length = b.length) (hd : a.drop k = b.drop k) (h : a.getD (k - 1) 0 < b.getD (k - 1) 0) : D.val a < D.val b := by
  rw [D.take_drop_val a (k - 1) (by omega), D.take_drop_val b (k - 1) (by omega), D.drop_getD a (k - 1) (by omega), D.drop_getD b (k - 1) (by omega)]
  rw [show k - 1 + 1 = k by omega, hd]
  have h1 := D.val_lt (ha.take (k - 1))
  rw [List.length_take, Nat.min_eq_left (by omega)] at h1
  have h2 : 65536 ^ (k - 1) * (a.getD (k - 1) 0 + 1 + 65536 * D.val (b.drop k)) ≤ 65536 ^ (k - 1) * (b.getD (k - 1) 0 + 65536 * D.val (b.drop k)) := Nat.mul_le_mul_left _ (by omega)
  have h3 : 65536 ^ (k - 1) * (a.getD (k - 1) 0 + 1 + 65536 * D.val (b.drop k)) = 65536 ^ (k - 1) * (a.getD (k - 1) 0 + 65536 * D.val (b.drop k)) + 65536 ^ (k - 1) := by
    rw [Nat.mul_add, Nat.mul_add, Nat.mul_add]; omega
  omega

theorem val_lt_of_len {a b : List Nat} (ha : D.Bd a) (hb : D.Tr b) (h : a.length < b.length) : D.val a < D.val b := by
  rcases Nat.lt_or_ge (D.val a) (D.val b) with h1 | h1
  · exact h1
  · have := D.len_le_of_val_le hb ha h1; omega

end D
end Go.Proofs.YthijnnififodjaaDoor
