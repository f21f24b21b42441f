/- Lists of lines of words in memory of their own. lex.take: a line that begins something, and one that says nothing. -/
import Derived.Test.YtbmmiepjkamaeaaDoorGac
import Derived.Test.YtbmmiepjkamaeaaDoorXz
namespace Go.Proofs.YtbmmiepjkamaeaaDoor
open Go.RowKit
namespace X
theorem info_line : (Tryd.prog.info? 32).map (fun i => (i.zero, i.size, i.bytes)) = some (some (.agg #[.int .i64 0, .slice none 0 0]), 2, 32) := by kernel_rfl
theorem und_lines : Tryd.prog.underlying 23 = some (.slice 32) := by kernel_rfl
def lnc : List Ln → List Value → List Value
 | x :: t, v :: vs => .int .i64 (x.1 : Int) :: v :: lnc t vs
 | _, _ => []
theorem lnc_len (t : List Ln) : ∀ vs : List Value, vs.length = t.length → (lnc t vs).length = t.length * 2 := by
 induction t with
 | nil => intro vs _; cases vs <;> rfl
 | cons x t ih =>
  intro vs h
  cases vs with
  | nil => simp at h
  | cons v vs =>
   have := ih vs (by simpa using h)
   simp only [lnc, List.length_cons, this]
   omega
theorem lnc_snoc (x : Ln) (v : Value) (t : List Ln) : ∀ vs : List Value, vs.length = t.length → lnc (t ++ [x]) (vs ++ [v]) = lnc t vs ++ [.int .i64 (x.1 : Int), v] := by
 induction t with
 | nil => intro vs h; cases vs with
  | nil => rfl
  | cons v vs => simp at h
 | cons y t ih =>
  intro vs h
  cases vs with
  | nil => simp at h
  | cons u vs =>
   simp only [List.cons_append, lnc, ih vs (by simpa using h)]
theorem lnc_at (t : List Ln) : ∀ (vs : List Value) (i : Nat), vs.length = t.length → i < t.length → (lnc t vs)[i * 2]? = some (.int .i64 ((t.getD i (0, [])).1 : Int)) ∧ (lnc t vs)[i * 2 + 1]? = some (vs.getD i undef) := by
 induction t with
 | nil => intro vs i _ h; simp at h
 | cons x t ih =>
  intro vs i h hi
  cases vs with
  | nil => simp at h
  | cons v vs =>
   cases i with
   | zero => exact ⟨rfl, rfl⟩
   | succ i =>
    have := ih vs i (by simpa using h) (by simpa using hi)
    rw [show (i + 1) * 2 = i * 2 + 1 + 1 by omega]
    simpa [lnc] using this
theorem owns_block {w w' : World} {B : Nat} {e : TypeId} {sz n : Nat} {v : Value} {xs : List Value} (h : w.ownsRow B e sz v n xs) (k : ∀ b, v.ownBlock = some b → w'.heap[b]? = w.heap[b]?) : w'.ownsRow B e sz v n xs := by
 obtain ⟨h1, h2 | ⟨g, cap, cur, rfl, h3, h4, h5⟩⟩ := h
 ·
  exact ⟨h1, .inl h2⟩
 ·
  exact ⟨h1, .inr ⟨g, cap, cur, rfl, h3, (k g rfl).trans h4, h5⟩⟩
theorem owns_set {w : World} {B : Nat} {e : TypeId} {sz n g cap : Nat} {xs : List Value} (h : w.ownsRow B e sz (.slice (some ⟨g, 0, none⟩) n cap) n xs) (i : Nat) (u : Value) : (w.setCell ⟨g, i, none⟩ u).ownsRow B e sz (.slice (some ⟨g, 0, none⟩) n cap) n (xs.set i u) := by
 obtain ⟨h1, ⟨h2, _⟩ | ⟨g', cap', cur, hv, h3, h4, h5, h6, h7, h8⟩⟩ := h
 ·
  cases h2
 ·
  simp only [Value.slice.injEq, Option.some.injEq, Addr.mk.injEq, and_true] at hv
  obtain ⟨rfl, _, rfl⟩ := hv
  refine ⟨by simpa using h1, .inr ⟨g, cap, cur.setIfInBounds i u, rfl, h3, ?_, h5, h6, by simpa using h7, ?_⟩⟩
  ·
   simp [World.setCell, Array.getElem?_modify, h4]
  ·
   rw [Array.toList_setIfInBounds, List.take_set, h8]
theorem owns_cell {w : World} {B : Nat} {e : TypeId} {sz n g cap : Nat} {xs : List Value} (h : w.ownsRow B e sz (.slice (some ⟨g, 0, none⟩) n cap) n xs) {i : Nat} {u : Value} (hi : xs[i]? = some u) : w.cell? ⟨g, i, none⟩ = some u := by
 obtain ⟨_, _, f, hr, hf⟩ := row_of_owns h
 have hl : i < cap * sz := by
  have h1 := (List.getElem?_eq_some_iff.1 hi).1
  rw [h.1] at h1
  exact Nat.lt_of_lt_of_le h1 (Nat.mul_le_mul_right _ (row_of_owns h).2.1)
 rw [hr.cell hl, hf i u hi]
theorem owns_frozen {w : World} {B : Nat} {e : TypeId} {sz n g cap : Nat} {xs : List Value} (h : w.ownsRow B e sz (.slice (some ⟨g, 0, none⟩) n cap) n xs) (i : Nat) : w.frozen? ⟨g, i, none⟩ = false := by
 obtain ⟨_, _, f, hr, hf⟩ := row_of_owns h
 exact hr.frozen i
structure OwnL (B : Nat) (w : World) (v : Value) (told : List Ln) (vs : List Value) : Prop where
 len : vs.length = told.length
 row : w.ownsRow B 32 2 v told.length (lnc told vs)
 own : ∀ i, i < told.length → OwnS B w (vs.getD i undef) (told.getD i (0, [])).2
 ne : ∀ i, i < told.length → (told.getD i (0, [])).2 ≠ []
 far : ∀ i b, i < told.length → (vs.getD i undef).ownBlock = some b → v.ownBlock ≠ some b
 dis : ∀ i j b, i < told.length → j < told.length → i ≠ j → (vs.getD i undef).ownBlock = some b → (vs.getD j undef).ownBlock ≠ some b
theorem OwnL.nil (B : Nat) (w : World) : OwnL B w (.slice none 0 0) [] [] :=
 ⟨rfl, World.ownsRow_nil _ _ _ _, fun i h => by simp at h, fun i h => by simp at h, fun i b h => by simp at h, fun i j b h => by simp at h⟩
theorem OwnL.blocks {B : Nat} {w w' : World} {v : Value} {told : List Ln} {vs : List Value} (h : OwnL B w v told vs) (k : ∀ b, b < w.heap.size → w'.heap[b]? = w.heap[b]?) : OwnL B w' v told vs :=
 ⟨h.len, owns_block h.row (fun b hb => k b (h.row.lt b hb).2), fun i hi => owns_block (h.own i hi) (fun b hb => k b ((h.own i hi).lt b hb).2), h.ne, h.far, h.dis⟩
theorem OwnL.kept {B : Nat} {w w' : World} {v : Value} {told : List Ln} {vs : List Value} (h : OwnL B w v told vs) (k : Kept w w') : OwnL B w' v told vs := h.blocks (fun b hb => k.block b hb)
theorem getD_left {α : Type} (l : List α) (x d : α) {i : Nat} (h : i < l.length) : (l ++ [x]).getD i d = l.getD i d := by
 rw [List.getD_eq_getElem?_getD, List.getD_eq_getElem?_getD, List.getElem?_append_left h]
theorem getD_last {α : Type} (l : List α) (x d : α) {i : Nat} (h : i = l.length) : (l ++ [x]).getD i d = x := by
 subst h
 rw [List.getD_eq_getElem?_getD]; simp
theorem OwnL.snoc {B : Nat} {w w' : World} {v wv : Value} {told : List Ln} {vs : List Value} {ws : List (List UInt8)} {at' g n' cap : Nat} (h : OwnL B w v told vs) (hw : OwnS B w wv ws) (hne : ws ≠ [])
  (hfar : ∀ b, wv.ownBlock = some b → v.ownBlock ≠ some b ∧ ∀ i, i < told.length → (vs.getD i undef).ownBlock ≠ some b)
  (hrow : w'.ownsRow B 32 2 (.slice (some ⟨g, 0, none⟩) n' cap) n' (lnc told vs ++ [.int .i64 (at' : Int), wv])) (hn : n' = told.length + 1) (hg : w.grownBy w' v.ownBlock) (hgg : v.ownBlock = some g ∨ g = w.heap.size) :
  OwnL B w' (.slice (some ⟨g, 0, none⟩) n' cap) (told ++ [(at', ws)]) (vs ++ [wv]) := by
 have hl := h.len
 have key : ∀ i, i < told.length + 1 → OwnS B w ((vs ++ [wv]).getD i undef) ((told ++ [(at', ws)]).getD i (0, [])).2 ∧ ((told ++ [(at', ws)]).getD i (0, [])).2 ≠ [] ∧ (∀ b, ((vs ++ [wv]).getD i undef).ownBlock = some b → v.ownBlock ≠ some b) := by
  intro i hi
  by_cases hi' : i < told.length
  ·
   rw [getD_left _ _ _ hi', getD_left _ _ _ (by omega)]
   exact ⟨h.own i hi', h.ne i hi', fun b => h.far i b hi'⟩
  ·
   rw [getD_last _ _ _ (show i = told.length by omega), getD_last _ _ _ (show i = vs.length by omega)]
   exact ⟨hw, hne, fun b hb => (hfar b hb).1⟩
 have hlen : (told ++ [(at', ws)]).length = told.length + 1 := by simp
 refine ⟨by simp [hl], ?_, ?_, ?_, ?_, ?_⟩
 ·
  rw [hlen, lnc_snoc _ _ _ _ hl, ← hn]; exact hrow
 ·
  intro i hi
  rw [hlen] at hi
  exact owns_block (key i hi).1 (fun b hb => hg.block b ((key i hi).1.lt b hb).2 (fun e => (key i hi).2.2 b hb e.symm))
 ·
  intro i hi
  rw [hlen] at hi
  exact (key i hi).2.1
 ·
  intro i b hi hb
  rw [hlen] at hi
  have h1 := (key i hi).2.2 b hb
  have h2 := ((key i hi).1.lt b hb).2
  intro e
  have e' : g = b := by simpa [Value.ownBlock] using e
  rcases hgg with h3 | h3
  ·
   exact h1 (by rw [h3, e'])
  ·
   omega
 ·
  intro i j b hi hj hij hb
  rw [hlen] at hi hj
  by_cases hi' : i < told.length
  ·
   rw [getD_left _ _ _ (by omega)] at hb
   by_cases hj' : j < told.length
   ·
    rw [getD_left _ _ _ (by omega)]
    exact h.dis i j b hi' hj' hij hb
   ·
    rw [getD_last _ _ _ (show j = vs.length by omega)]
    intro e
    exact (hfar b e).2 i hi' hb
  ·
   rw [getD_last _ _ _ (show i = vs.length by omega)] at hb
   rw [getD_left _ _ _ (show j < vs.length by omega)]
   exact (hfar b hb).2 j (by omega)
theorem lnc_setLast (t : List Ln) (vs : List Value) (y y' : Ln) (u u' : Value) (h : vs.length = t.length) (hy : y.1 = y'.1) : (lnc (t ++ [y]) (vs ++ [u])).set (t.length * 2 + 1) u' = lnc (t ++ [y']) (vs ++ [u']) := by
 rw [lnc_snoc _ _ _ _ h, lnc_snoc _ _ _ _ h, List.set_append_right _ _ (by rw [lnc_len t vs h]; omega), lnc_len t vs h, Nat.add_sub_cancel_left, hy]
 rfl
theorem OwnL.last {B : Nat} {w w' : World} {told : List Ln} {y : Ln} {vs : List Value} {lv lv' : Value} {ws : List (List UInt8)} {g n cap : Nat} (hn : n = told.length + 1) (h : OwnL B w (.slice (some ⟨g, 0, none⟩) n cap) (told ++ [y]) (vs ++ [lv]))
  (hw : OwnS B w' lv' ws) (hne : ws ≠ []) (hg : w.grownBy w' lv.ownBlock) (hgg : ∀ b, lv'.ownBlock = some b → lv.ownBlock = some b ∨ w.heap.size ≤ b) :
  OwnL B (w'.setCell ⟨g, told.length * 2 + 1, none⟩ lv') (.slice (some ⟨g, 0, none⟩) n cap) (told ++ [(y.1, ws)]) (vs ++ [lv']) := by
 have hl : vs.length = told.length := by simpa using h.len
 have hlen : (told ++ [(y.1, ws)]).length = told.length + 1 := by simp
 have hlen0 : (told ++ [y]).length = told.length + 1 := by simp
 have hfl : ∀ b, lv.ownBlock = some b → ¬ g = b := by
  intro b hb e
  have := h.far told.length b (by simp) (by rw [getD_last _ _ _ (show told.length = vs.length by omega)]; exact hb)
  exact this (by rw [← e]; rfl)
 have hgw : g < w.heap.size := (h.row.lt g rfl).2
 have hfl' : ∀ b, lv'.ownBlock = some b → ¬ g = b := by
  intro b hb e
  rcases hgg b hb with h1 | h1
  ·
   exact hfl b h1 e
  ·
   omega
 have hrow := h.row
 rw [hlen0, ← hn] at hrow
 have hrow' : w'.ownsRow B 32 2 (.slice (some ⟨g, 0, none⟩) n cap) n (lnc (told ++ [y]) (vs ++ [lv])) := owns_block hrow (fun b hb => by
  have hb' : g = b := by simpa [Value.ownBlock] using hb
  exact hg.block b (by omega) (fun e => hfl b e.symm hb'))
 have key : ∀ i, i < told.length → OwnS B w (vs.getD i undef) (told.getD i (0, [])).2 ∧ (told.getD i (0, [])).2 ≠ [] ∧ (∀ b, (vs.getD i undef).ownBlock = some b → ¬ g = b ∧ lv.ownBlock ≠ some b ∧ b < w.heap.size) := by
  intro i hi
  have h1 := h.own i (by rw [hlen0]; omega)
  have h2 := h.ne i (by rw [hlen0]; omega)
  rw [getD_left _ _ _ hi] at h1 h2
  rw [getD_left _ _ _ (by omega)] at h1
  refine ⟨h1, h2, fun b hb => ⟨fun e => ?_, fun e => ?_, (h1.lt b hb).2⟩⟩
  ·
   exact h.far i b (by rw [hlen0]; omega) (by rw [getD_left _ _ _ (by omega)]; exact hb) (by rw [← e]; rfl)
  ·
   exact h.dis i told.length b (by rw [hlen0]; omega) (by rw [hlen0]; omega) (by omega) (by rw [getD_left _ _ _ (by omega)]; exact hb) (by rw [getD_last _ _ _ (show told.length = vs.length by omega)]; exact e)
 refine ⟨by simp [hl], ?_, ?_, ?_, ?_, ?_⟩
 ·
  rw [hlen, ← hn, ← lnc_setLast told vs y (y.1, ws) lv lv' hl rfl]
  exact owns_set hrow' _ _
 ·
  intro i hi
  rw [hlen] at hi
  by_cases hi' : i < told.length
  ·
   rw [getD_left _ _ _ hi', getD_left _ _ _ (by omega)]
   have k := key i hi'
   exact owns_block k.1 (fun b hb => (Deep.blk_setCell_other _ _ _ _ (fun e => (k.2.2 b hb).1 e.symm)).trans (hg.block b (k.2.2 b hb).2.2 (fun e => (k.2.2 b hb).2.1 e.symm)))
  ·
   rw [getD_last _ _ _ (show i = told.length by omega), getD_last _ _ _ (show i = vs.length by omega)]
   exact owns_block hw (fun b hb => Deep.blk_setCell_other _ _ _ _ (fun e => hfl' b hb e.symm))
 ·
  intro i hi
  rw [hlen] at hi
  by_cases hi' : i < told.length
  ·
   rw [getD_left _ _ _ hi']; exact (key i hi').2.1
  ·
   rw [getD_last _ _ _ (show i = told.length by omega)]; exact hne
 ·
  intro i b hi hb e
  rw [hlen] at hi
  have e' : g = b := by simpa [Value.ownBlock] using e
  by_cases hi' : i < told.length
  ·
   rw [getD_left _ _ _ (by omega)] at hb
   exact ((key i hi').2.2 b hb).1 e'
  ·
   rw [getD_last _ _ _ (show i = vs.length by omega)] at hb
   exact hfl' b hb e'
 ·
  intro i j b hi hj hij hb
  rw [hlen] at hi hj
  have nl : ∀ k, k < told.length → ∀ b, (vs.getD k undef).ownBlock = some b → lv'.ownBlock ≠ some b := by
   intro k hk b hb e
   rcases hgg b e with h1 | h1
   ·
    exact ((key k hk).2.2 b hb).2.1 h1
   ·
    have := ((key k hk).2.2 b hb).2.2; omega
  by_cases hi' : i < told.length
  ·
   rw [getD_left _ _ _ (by omega)] at hb
   by_cases hj' : j < told.length
   ·
    rw [getD_left _ _ _ (by omega)]
    have := h.dis i j b (by rw [hlen0]; omega) (by rw [hlen0]; omega) hij (by rw [getD_left _ _ _ (by omega)]; exact hb)
    rwa [getD_left _ _ _ (by omega)] at this
   ·
    rw [getD_last _ _ _ (show j = vs.length by omega)]
    exact nl i hi' b hb
  ·
   rw [getD_last _ _ _ (show i = vs.length by omega)] at hb
   rw [getD_left _ _ _ (show j < vs.length by omega)]
   intro e
   exact nl j (by omega) b e hb
end X
end Go.Proofs.YtbmmiepjkamaeaaDoor

namespace Go.Proofs.YtbmmiepjkamaeaaDoor
open Go.RowKit
namespace X
def TkIs (B : Nat) (w : World) (e : Ending) : Except Nat (List Ln) → Prop
 | .error x => e = .returned (.tuple #[.slice none 0 0, .int .i64 (x : Int)])
 | .ok t => ∃ v vs, e = .returned (.tuple #[v, .int .i64 0]) ∧ OwnL B w v t vs
theorem cell_two (w : World) (x y : Value) (t : TypeId) : ∀ j u, ([x, y] : List Value)[j]? = some u → (w.alloc (.cells #[x, y] t)).cell? ((⟨w.heap.size, 0, none⟩ : Addr).add j) = some u := by
 intro j u hj
 match j, hj with
 | 0, hj => simp at hj; subst hj; simp [Addr.add]
 | 1, hj => simp at hj; subst hj; simp [Addr.add]
theorem OwnL.shape {B : Nat} {w : World} {v : Value} {told : List Ln} {vs : List Value} (h : OwnL B w v told vs) : ∃ ao cap, v = .slice ao told.length cap := by
 obtain ⟨_, ⟨h2, h3⟩ | ⟨g, cap, cur, h2, _⟩⟩ := h.row
 ·
  exact ⟨none, 0, by rw [h2, h3]⟩
 ·
  exact ⟨_, _, h2⟩
theorem OwnS.mono {B B' : Nat} {w : World} {v : Value} {ws : List (List UInt8)} (h : OwnS B w v ws) (hB : B' ≤ B) : OwnS B' w v ws := by
 obtain ⟨h1, h2 | ⟨g, cap, cur, h2, h3, h4⟩⟩ := h
 ·
  exact ⟨h1, .inl h2⟩
 ·
  exact ⟨h1, .inr ⟨g, cap, cur, h2, by omega, h4⟩⟩
theorem tk_no {told : List Ln} {n : Nat} {l : List UInt8} (h : l.all okB = true) (h2 : kindI (wordsL l) = 0) : tk told n l = .ok told := by
 unfold tk
 rw [h, if_neg (by decide)]
 rcases hw : wordsL l with _ | ⟨x, xs⟩
 ·
  rfl
 ·
  rw [hw] at h2
  rw [kindI] at h2
  rw [kd]
  by_cases h42 : isC 42 x = true
  ·
   rw [if_pos h42]
  ·
   rw [if_neg h42] at h2
   split at h2 <;> exact absurd h2 (by decide)
theorem tk_begins {told : List Ln} {n : Nat} {l : List UInt8} (h : l.all okB = true) (h2 : kindI (wordsL l) = 2) : tk told n l = if 64 < (wordsL l).length then .error 7 else .ok (told ++ [(n, wordsL l)]) := by
 unfold tk
 rw [h, if_neg (by decide)]
 rcases hw : wordsL l with _ | ⟨x, xs⟩
 ·
  rw [hw] at h2; exact absurd h2 (by decide)
 ·
  rw [hw] at h2
  rw [kindI] at h2
  rw [kd]
  by_cases h42 : isC 42 x = true
  ·
   rw [if_pos h42] at h2; exact absurd h2 (by decide)
  ·
   rw [if_neg h42] at h2 ⊢
   by_cases h43 : isC 43 x = true
   ·
    rw [if_pos h43] at h2; exact absurd h2 (by decide)
   ·
    rw [if_neg h43]
theorem tk_goes {told : List Ln} {n : Nat} {l : List UInt8} (h : l.all okB = true) (h2 : kindI (wordsL l) = 1) : (∃ x xs, wordsL l = x :: xs ∧ isC 43 x = true) ∧ tk told n l = match told.getLast? with
  | none => .error 61
  | some y => if 64 < (y.2 ++ noPlus (wordsL l)).length then .error 7 else .ok (told.dropLast ++ [(y.1, y.2 ++ noPlus (wordsL l))]) := by
 unfold tk
 rw [h, if_neg (by decide)]
 rcases hw : wordsL l with _ | ⟨x, xs⟩
 ·
  rw [hw] at h2; exact absurd h2 (by decide)
 ·
  rw [hw] at h2
  rw [kindI] at h2
  rw [kd]
  by_cases h42 : isC 42 x = true
  ·
   rw [if_pos h42] at h2; exact absurd h2 (by decide)
  ·
   rw [if_neg h42] at h2 ⊢
   by_cases h43 : isC 43 x = true
   ·
    rw [if_pos h43]
    exact ⟨⟨x, xs, rfl, h43⟩, rfl⟩
   ·
    rw [if_neg h43] at h2; exact absurd h2 (by decide)
theorem kindI_cases (ws : List (List UInt8)) : kindI ws = 0 ∨ kindI ws = 1 ∨ kindI ws = 2 := by
 unfold kindI
 split
 ·
  exact .inl rfl
 ·
  split
  ·
   exact .inl rfl
  ·
   split
   ·
    exact .inr (.inl rfl)
   ·
    exact .inr (.inr rfl)
set_option maxRecDepth 100000 in
set_option maxHeartbeats 4000000 in
theorem take_begins (B : Nat) (ao : Option Addr) (n c : Nat) (told : List Ln) (vs : List Value) (at' : Nat) (s : ByteArray) (w : World) (hB : B ≤ w.heap.size) (hn : n = told.length) (hown : OwnL B w (.slice ao n c) told vs) (hl : n ≤ 1000000) (hs : s.size ≤ 65536)
  (hok : allOk s.data.toList = true) (hk : kindI (wordsL s.data.toList) = 2) :
  Calls Tryd.prog 15 #[.slice ao n c, .int .i64 (at' : Int), .string s] w fun e w' => Below B w w' ∧ TkIs B w' e (tk told at' s.data.toList) := by
 have HT := hid' (tk_begins (told := told) (n := at') hok hk)
 have HO := hid' (And.intro hown hn)
 have hwl : (wordsL s.data.toList).length ≤ 65537 := by
  have h1 := wd_len (said s.data.toList) []
  have h2 := (List.takeWhile_sublist (fun c => !isR c) (l := s.data.toList)).length_le
  rw [len_list] at h2
  have h3 : (said s.data.toList).length ≤ s.size := h2
  unfold wordsL
  omega
 have hwo := wordsOf_any s w (by omega)
 have hwne : ∀ x ∈ wordsL s.data.toList, x ≠ [] := wd_ne _ _
 have hw0 : wordsL s.data.toList ≠ [] := fun h => by rw [h] at hk; exact absurd hk (by decide)
 clear hown hn
 obtain ⟨i0, hi, hz0, hz1, hz2⟩ := info_parts info_line
 have hml : n + 1 ≤ maxLen := by unfold maxLen; omega
 generalize wordsL s.data.toList = ws at HT hwl hwo hwne hw0 hk
 generalize hT : tk told at' s.data.toList = T at HT ⊢
 clear hT
 go_enter Tryd.func15, Tryd.ntmps15
 go_wp2_with fail
 refine (right_any s _ (by omega)).mono ?_
 rintro e w1 ⟨rfl, rfl⟩
 rw [hok]
 go_wp2_with fail
 refine hwo.mono ?_
 rintro e w2 ⟨hk2, wv, rfl, own2⟩
 have HW := hid' (And.intro hk2 own2)
 obtain ⟨wa, wc, rfl⟩ := own2.shape
 clear hk2 own2 hwo
 go_wp2_with fail
 refine (kindOf_any _ _ ws _ HW.out.2 hwne (by omega)).mono ?_
 rintro e w3 ⟨rfl, rfl⟩
 rw [hk]
 have hsz : B ≤ (w3.alloc (.cells #[.int .i64 (at' : Int), .slice wa ws.length wc] 32)).heap.size := by have := HW.out.1.size; simp; omega
 go_wp2_with (at_builtin; refine wpList_append_lies _ rfl _ _ 23 rfl B 32 i0 (.agg #[.int .i64 0, .slice none 0 0]) 2 32 und_lines hi hz0 hz1 hz2 rfl (by decide) _ n (lnc told vs) rfl (by have := (HO.out.1.kept HW.out.1).row; rw [← HO.out.2] at this; exact this.alloc _) ⟨w3.heap.size, 0, none⟩ 1 1 [.int .i64 (at' : Int), .slice wa ws.length wc] rfl rfl (cell_two w3 _ _ _) (fun x hx => by simp at hx; rcases hx with rfl | rfl <;> rfl) (by omega) hml (by omega) (by exact hsz) _ rfl ?_)
 intro g cap w4 hown' hgrow hgg hglt
 have HN : Hid (Below B w1 w4 ∧ OwnL B w4 (.slice (some ⟨g, 0, none⟩) (n + 1) cap) (told ++ [(at', ws)]) (vs ++ [.slice wa ws.length wc])) := by
  have h0 := (HO.out.1.kept HW.out.1).kept ((Kept.refl w3).alloc (.cells #[.int .i64 (at' : Int), .slice wa ws.length wc] 32))
  have hs3 : B ≤ w3.heap.size := Nat.le_trans hB HW.out.1.size
  refine ⟨Below.grown ((Below.mono HW.out.1 hB).alloc hs3 _) hgrow (by exact hsz) (fun j hj => (h0.row.lt j hj).1), ?_⟩
  have hwb := HW.out.2.mono hB
  refine h0.snoc (OwnS.kept hwb ((Kept.refl w3).alloc _)) hw0 (fun b hb => ?_) hown' (by rw [HO.out.2]) hgrow (by simpa using hgg)
  have hb1 := (HW.out.2.lt b hb).1
  refine ⟨fun e => ?_, fun i hi' e => ?_⟩
  ·
   have := (HO.out.1.row.lt b e).2; omega
  ·
   have := ((HO.out.1.own i hi').lt b e).2; omega
 have q1 := owns_cell (i := n * 2 + 1) (u := .slice wa ws.length wc) hown' (by rw [List.getElem?_append_right (by rw [lnc_len _ _ HO.out.1.len, HO.out.2]; omega), lnc_len _ _ HO.out.1.len, ← HO.out.2, Nat.add_sub_cancel_left]; rfl)
 clear hown' hgrow hgg hsz
 have n1 : ((n : Int) + 1 - 1) = (n : Int) := by omega
 have n2 : IntKind.i64.wrap (n : Int) = (n : Int) := by rw [IntKind.wrap_i64]; omega
 have n3 : (n : Int) < (n : Int) + 1 := by omega
 have n4 : (0 : Int) ≤ (n : Int) := by omega
 by_cases h6 : 64 < ws.length
 ·
  have h6' : (64 : Int) < (ws.length : Int) := by omega
  go_wp2_with fail
  go_ret2
  refine ⟨HN.out.1, ?_⟩
  rw [HT.out, if_pos h6]
  exact rfl
 ·
  have h6' : ¬ (64 : Int) < (ws.length : Int) := by omega
  go_wp2_with fail
  go_ret2
  refine ⟨HN.out.1, ?_⟩
  rw [HT.out, if_neg h6]
  exact ⟨_, _, rfl, HN.out.2⟩
end X
end Go.Proofs.YtbmmiepjkamaeaaDoor
