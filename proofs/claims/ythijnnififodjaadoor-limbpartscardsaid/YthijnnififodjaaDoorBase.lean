/- What a slice of limbs reads as in a world, and the small laws by which that reading goes on. -/
import Derived.Test.YthijnnififodjaaDoorProg
import Derived.Test.YthijnnififodjaaDoorMath
import Derived.WalkKit
import Derived.WalkSpells
import Derived.WalkLawsBesides
import Derived.Deep.OwnRows
import Derived.Deep.QuietTactic
import Derived.BigQuiet
import Derived.Outline
import Derived.KernelRfl
namespace Go.Proofs.YthijnnififodjaaDoor
open Go.RowKit

/-- The slice value v reads, in the world w, as the limbs l. -/
def Sl (w : World) (v : Value) (l : List Nat) : Prop :=
  M.Bd l ∧ ∃ (ao : Option Addr) (cap : Nat), v = .slice ao l.length cap ∧
    (0 < l.length → l.length ≤ cap ∧ ∃ b off : Nat, ao = some ⟨b, off, none⟩ ∧ b < w.heap.size ∧ ∀ j, j < l.length → w.cell? ⟨b, off + j, none⟩ = some (.int .u32 ((l.getD j 0 : Nat) : Int)))

theorem Sl.bd {w : World} {v : Value} {l : List Nat} (h : Sl w v l) : M.Bd l := h.1

/-- Nothing old has turned. -/
def Kept (w w' : World) : Prop := Below w.heap.size w w'

theorem Kept.refl (w : World) : Kept w w := Below.refl _ _
theorem Kept.trans {a b c : World} (h : Kept a b) (k : Kept b c) : Kept a c := Below.trans h (Below.mono k h.size)
theorem Kept.drew {a b : World} (h : Kept a b) : Kept a b.drew := Below.drew h
theorem Kept.drewN {a b : World} (h : Kept a b) (n : Nat) : Kept a (b.drewN n) := ⟨h.os, h.tape, h.output, h.size, h.block⟩
theorem Kept.alloc {a b : World} (h : Kept a b) (o : Obj) : Kept a (b.alloc o) := Below.alloc h h.size o

theorem Kept.setCell {a b : World} (h : Kept a b) {p : Addr} (hp : a.heap.size ≤ p.block) (u : Value) : Kept a (b.setCell p u) := Below.setCell h hp u

theorem Sl.kept {w w' : World} {v : Value} {l : List Nat} (h : Sl w v l) (k : Kept w w') : Sl w' v l := by
  obtain ⟨hb, ao, cap, rfl, hx⟩ := h
  refine ⟨hb, ao, cap, rfl, fun h0 => ?_⟩
  obtain ⟨h1, b, off, rfl, hlt, hc⟩ := hx h0
  refine ⟨h1, b, off, rfl, Nat.lt_of_lt_of_le hlt k.size, fun j hj => ?_⟩
  rw [Below.cell k (p := ⟨b, off + j, none⟩) hlt]
  exact hc j hj

theorem Sl.nil (w : World) (ao : Option Addr) (cap : Nat) : Sl w (.slice ao 0 cap) [] :=
  ⟨M.Bd_nil, ao, cap, rfl, fun h => absurd h (by decide)⟩

/-- A row of limbs, told by a list (noughts behind it), read up to n. -/
theorem Sl.of_row {w : World} {b N cap n : Nat} {t : TypeId} {p : List Nat} (h : w.rowIs b t N (fun j => .int .u32 ((p.getD j 0 : Nat) : Int))) (hp : M.Bd p) (hn : n = p.length) (hN : n ≤ N) (hc : n ≤ cap) :
    Sl w (.slice (some ⟨b, 0, none⟩) n cap) p := by
  subst hn
  exact ⟨hp, _, cap, rfl, fun _ => ⟨hc, b, 0, rfl, h.lt, fun j hj => by rw [Nat.zero_add]; exact h.cell (by omega)⟩⟩

theorem Sl.drewN {w : World} {v : Value} {l : List Nat} (h : Sl w v l) (n : Nat) : Sl (w.drewN n) v l := h

/-- The slice value v is nil or begins at the head of a row from block B on, none of whose cells is frozen, and reads as the limbs l. -/
def New (B : Nat) (w : World) (v : Value) (l : List Nat) : Prop :=
  M.Bd l ∧ ((v = .slice none 0 0 ∧ l = []) ∨ ∃ (b N : Nat) (f : Nat → Value), v = .slice (some ⟨b, 0, none⟩) l.length N ∧ B ≤ b ∧ l.length ≤ N ∧ w.rowIs b 43 N f ∧ ∀ j, j < l.length → f j = .int .u32 ((l.getD j 0 : Nat) : Int))

theorem New.sl {B : Nat} {w : World} {v : Value} {l : List Nat} (h : New B w v l) : Sl w v l := by
  obtain ⟨hb, ⟨rfl, rfl⟩ | ⟨b, N, f, rfl, _, hN, hr, hf⟩⟩ := h
  · exact Sl.nil _ _ _
  · exact ⟨hb, _, N, rfl, fun _ => ⟨hN, b, 0, rfl, hr.lt, fun j hj => by rw [Nat.zero_add, hr.cell (by omega), hf j hj]⟩⟩

theorem New.kept {B : Nat} {w w' : World} {v : Value} {l : List Nat} (h : New B w v l) (k : Kept w w') : New B w' v l := by
  obtain ⟨hb, ⟨rfl, rfl⟩ | ⟨b, N, f, rfl, hB, hN, hr, hf⟩⟩ := h
  · exact ⟨hb, .inl ⟨rfl, rfl⟩⟩
  · exact ⟨hb, .inr ⟨b, N, f, rfl, hB, hN, hr.of_block (k.block b hr.lt), hf⟩⟩

theorem New.mono {B B' : Nat} {w : World} {v : Value} {l : List Nat} (h : New B w v l) (hB : B' ≤ B) : New B' w v l := by
  obtain ⟨hb, ⟨rfl, rfl⟩ | ⟨b, N, f, rfl, h1, hN, hr, hf⟩⟩ := h
  · exact ⟨hb, .inl ⟨rfl, rfl⟩⟩
  · exact ⟨hb, .inr ⟨b, N, f, rfl, by omega, hN, hr, hf⟩⟩

theorem New.nil (B : Nat) (w : World) : New B w (.slice none 0 0) [] := ⟨M.Bd_nil, .inl ⟨rfl, rfl⟩⟩

theorem New.of_row {B : Nat} {w : World} {b N n : Nat} {p : List Nat} (h : w.rowIs b 43 N (fun j => .int .u32 ((p.getD j 0 : Nat) : Int))) (hp : M.Bd p) (hn : n = p.length) (hN : n ≤ N) (hB : B ≤ b) :
    New B w (.slice (some ⟨b, 0, none⟩) n N) p := by
  subst hn; exact ⟨hp, .inr ⟨b, N, _, rfl, hB, hN, h, fun _ _ => rfl⟩⟩

theorem New.take {B : Nat} {w : World} {b N len : Nat} {l : List Nat} (h : New B w (.slice (some ⟨b, 0, none⟩) len N) l) (n : Nat) (hn : n ≤ l.length) :
    New B w (if n = 0 then .slice none 0 0 else .slice (some ⟨b, 0, none⟩) n N) (l.take n) := by
  by_cases h0 : n = 0
  · subst h0; rw [if_pos rfl]; exact New.nil _ _
  · rw [if_neg h0]
    obtain ⟨hb, ⟨hv, _⟩ | ⟨b', N', f, hv, hB, hN, hr, hf⟩⟩ := h
    · simp at hv
    · simp only [Value.slice.injEq, Option.some.injEq, Addr.mk.injEq] at hv
      obtain ⟨⟨rfl, _, _⟩, rfl, rfl⟩ := hv
      have e1 : (l.take n).length = n := by rw [List.length_take]; omega
      refine ⟨hb.take n, .inr ⟨b, N, f, by rw [e1], hB, by omega, hr, fun j hj => ?_⟩⟩
      rw [e1] at hj
      rw [hf j (by omega), List.getD_eq_getElem?_getD, List.getD_eq_getElem?_getD, List.getElem?_take_of_lt hj]

theorem New.len {B : Nat} {w : World} {ao : Option Addr} {n c : Nat} {l : List Nat} (h : New B w (.slice ao n c) l) : n = l.length := by
  obtain ⟨hb, ⟨hv, rfl⟩ | ⟨b', N', f, hv, hB, hN, hr, hf⟩⟩ := h
  · simp at hv; simp [hv]
  · simp at hv; exact hv.2.1

theorem Tryd.info43 : (Tryd.prog.info? 43).map (fun i => (i.zero, i.size, i.bytes)) = some (some (.int .u32 0), 1, 4) := by kernel_rfl

/-- 'make' of a row of limbs. -/
theorem make_limbs (n : Nat) (hn : n ≤ 1000000) (w : World) :
    (Instr.makeSlice 22 (.int .i64 (n : Int)) (.int .i64 (n : Int))).run Tryd.prog w = .ok (.slice (some ⟨w.heap.size, 0, none⟩) n n) (w.alloc (.cells (madeCells #[.int .u32 0] n) 43)) :=
  run_make_row' 22 43 (.int .u32 0) 4 Tryd.underlying22 Tryd.info43 rfl .i64 .i64 n (by omega) (by omega) w

/-- A store of one more limb into a row that holds the limbs p, noughts behind. -/
theorem row_snoc {w : World} {b N : Nat} {p : List Nat} (h : w.rowIs b 43 N (fun j => .int .u32 ((p.getD j 0 : Nat) : Int))) (k : Nat) (hk : k = p.length) (x : Nat) (y : Int) (hy : y = x) :
    (w.setCell ⟨b, k, none⟩ (.int .u32 y)).rowIs b 43 N (fun j => .int .u32 (((p ++ [x]).getD j 0 : Nat) : Int)) := by
  subst hy hk
  refine (h.set p.length (.int .u32 x)).congr (fun j _ => ?_)
  rw [M.getD_snoc]
  split <;> rfl

theorem row_made (w : World) (n : Nat) : (w.alloc (.cells (madeCells #[.int .u32 0] n) 43)).rowIs w.heap.size 43 n (fun j => .int .u32 ((([] : List Nat).getD j 0 : Nat) : Int)) :=
  (World.rowIs_made w (.int .u32 0) n 43).congr (fun _ _ => by simp)

theorem New.shape {B : Nat} {w : World} {v : Value} {l : List Nat} (h : New B w v l) : ∃ ao cap, v = .slice ao l.length cap := by
  obtain ⟨_, ⟨rfl, rfl⟩ | ⟨b, N, f, rfl, _⟩⟩ := h
  · exact ⟨_, _, rfl⟩
  · exact ⟨_, _, rfl⟩

theorem New.other {B : Nat} {w : World} {v : Value} {l : List Nat} (h : New B w v l) {p : Addr} (hp : p.block < B) (u : Value) : New B (w.setCell p u) v l := by
  obtain ⟨hb, ⟨rfl, rfl⟩ | ⟨b, N, f, rfl, hB, hN, hr, hf⟩⟩ := h
  · exact ⟨hb, .inl ⟨rfl, rfl⟩⟩
  · exact ⟨hb, .inr ⟨b, N, f, rfl, hB, hN, hr.setOther (by omega) u, hf⟩⟩

theorem u64_wrap (n : Int) : IntKind.u64.wrap n = n % 18446744073709551616 := rfl

theorem getD_set (o : List Nat) (m v j : Nat) (hm : m < o.length) : (o.set m v).getD j 0 = if j = m then v else o.getD j 0 := by
  simp only [List.getD_eq_getElem?_getD, List.getElem?_set]
  by_cases h : m = j
  · subst h; simp [hm]
  · rw [if_neg h, if_neg (fun e => h e.symm)]

theorem val_set (o : List Nat) : ∀ (m v : Nat), m < o.length → M.val (o.set m v) + 4294967296 ^ m * o.getD m 0 = M.val o + 4294967296 ^ m * v := by
  induction o with
  | nil => intro m v h; simp at h
  | cons x o ih =>
    intro m v h
    cases m with
    | zero => simp [M.val]; omega
    | succ m =>
      have := ih m v (by simpa using h)
      simp only [List.set_cons_succ, M.val, Nat.pow_succ, List.getD_cons_succ]
      have e1 : 4294967296 ^ m * 4294967296 * o.getD m 0 = 4294967296 * (4294967296 ^ m * o.getD m 0) := by rw [Nat.mul_comm (4294967296 ^ m) 4294967296, Nat.mul_assoc]
      have e2 : 4294967296 ^ m * 4294967296 * v = 4294967296 * (4294967296 ^ m * v) := by rw [Nat.mul_comm (4294967296 ^ m) 4294967296, Nat.mul_assoc]
      omega

theorem Bd_set {o : List Nat} (h : M.Bd o) (m v : Nat) (hv : v < 4294967296) : M.Bd (o.set m v) := by
  intro x hx
  rcases List.mem_or_eq_of_mem_set hx with h1 | h1
  · exact h x h1
  · omega

theorem Bd_replicate (n : Nat) : M.Bd (List.replicate n 0) := by
  intro x hx; rw [List.mem_replicate] at hx; omega

theorem val_replicate (n : Nat) : M.val (List.replicate n 0) = 0 := by
  induction n with
  | zero => rfl
  | succ n ih => rw [List.replicate_succ, M.val, ih]

theorem row_set {w : World} {b N : Nat} {o : List Nat} (h : w.rowIs b 43 N (fun j => .int .u32 ((o.getD j 0 : Nat) : Int))) (m : Nat) (hm : m < o.length) (v : Nat) (y : Int) (hy : y = v) :
    (w.setCell ⟨b, m, none⟩ (.int .u32 y)).rowIs b 43 N (fun j => .int .u32 (((o.set m v).getD j 0 : Nat) : Int)) := by
  subst hy
  refine (h.set m (.int .u32 v)).congr (fun j _ => ?_)
  rw [getD_set _ _ _ _ hm]
  split <;> rfl

theorem ret_u64 {a b : Int} (h : a = b) : Ending.returned (.int .u64 a) = .returned (.int .u64 b) := by rw [h]
theorem ret_u32 {a b : Int} (h : a = b) : Ending.returned (.int .u32 a) = .returned (.int .u32 b) := by rw [h]
theorem ret_i64 {a b : Int} (h : a = b) : Ending.returned (.int .i64 a) = .returned (.int .i64 b) := by rw [h]
theorem ret_bool {a b : Bool} (h : a = b) : Ending.returned (.bool a) = .returned (.bool b) := by rw [h]

set_option maxHeartbeats 400000 in
theorem limbAt_any {v : Value} {l : List Nat} (w : World) (h : Sl w v l) (i : Int) (h0 : 0 ≤ i) (hl : l.length ≤ 1000000) :
    Calls Tryd.prog 72 #[v, .int .i64 i] w fun e w' => e = .returned (.int .u64 ((l.getD i.toNat 0 : Nat) : Int)) ∧ w' = w := by
  obtain ⟨hb, ao, cap, rfl, hx⟩ := h
  obtain ⟨k, rfl⟩ := Int.eq_ofNat_of_zero_le h0
  simp only [Int.toNat_natCast]
  have hlt' := hb.getD k
  generalize hz : l.getD k 0 = z at *
  by_cases hk : k < l.length
  · obtain ⟨_, b, off, rfl, _, hc⟩ := hx (by omega)
    have hck := hc k hk
    rw [hz] at hck
    have HZ : Hid (l.getD k 0 = z) := hz
    clear hc hx hz
    go_enter Tryd.func72, Tryd.ntmps72
    go_wp2
    go_ret
    exact ⟨rfl, rfl⟩
  · have hz0 : z = 0 := by rw [← hz, List.getD_eq_getElem?_getD, List.getElem?_eq_none (by omega)]; rfl
    clear hz hx
    subst hz0
    go_enter Tryd.func72, Tryd.ntmps72
    go_wp2
    go_ret
    exact ⟨rfl, rfl⟩

end Go.Proofs.YthijnnififodjaaDoor
