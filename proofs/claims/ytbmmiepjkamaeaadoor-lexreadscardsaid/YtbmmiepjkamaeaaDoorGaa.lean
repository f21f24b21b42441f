/- Lines of words: what a text says: bytes alone. Lines of words: what the statements ask, of bytes alone. Lines of words: the words are clean, and written out they are read again: of bytes alone. -/
import Init
namespace Go.Proofs.YtbmmiepjkamaeaaDoor
namespace X
def isB (c : UInt8) : Bool := decide (c.toNat = 9 ∨ c.toNat = 13 ∨ c.toNat = 32)
def okB (c : UInt8) : Bool := isB c || decide (33 ≤ c.toNat ∧ c.toNat ≤ 126)
def sm (c : UInt8) : UInt8 := if 65 ≤ c.toNat ∧ c.toNat ≤ 90 then c + 32 else c
def isN (c : UInt8) : Bool := decide (c.toNat = 10)
def isR (c : UInt8) : Bool := decide (c.toNat = 59)
def emit (cur : List UInt8) : List (List UInt8) := if cur = [] then [] else [cur.map sm]
def wd : List UInt8 → List UInt8 → List (List UInt8)
 | cur, [] => emit cur
 | cur, c :: L => if isB c = true then emit cur ++ wd [] L else wd (cur ++ [c]) L
def said (l : List UInt8) : List UInt8 := l.takeWhile (fun c => !isR c)
def wordsL (l : List UInt8) : List (List UInt8) := wd [] (said l)
def cut10 : List UInt8 → List (List UInt8)
 | [] => [[]]
 | c :: L => if isN c = true then [] :: cut10 L else
  match cut10 L with
  | [] => [[c]]
  | p :: ps => (c :: p) :: ps
def piecesL (L : List UInt8) : List (List UInt8) := if (cut10 L).getLast? = some [] then (cut10 L).dropLast else cut10 L
inductive Kd where
 | no
 | begins (ws : List (List UInt8))
 | goes (ws : List (List UInt8))
def isC (k : Nat) (w : List UInt8) : Bool := match w with
 | [] => false
 | c :: _ => decide (c.toNat = k)
def kd : List (List UInt8) → Kd
 | [] => .no
 | w :: ws => if isC 42 w = true then .no else if isC 43 w = true then .goes (if w.tail = [] then ws else w.tail :: ws) else .begins (w :: ws)
abbrev Ln := Nat × List (List UInt8)
def tk (told : List Ln) (n : Nat) (l : List UInt8) : Except Nat (List Ln) :=
 if l.all okB = false then .error 60 else
 match kd (wordsL l) with
 | .no => .ok told
 | .begins ws => if 64 < ws.length then .error 7 else .ok (told ++ [(n, ws)])
 | .goes ws => match told.getLast? with
  | none => .error 61
  | some x => if 64 < (x.2 ++ ws).length then .error 7 else .ok (told.dropLast ++ [(x.1, x.2 ++ ws)])
def go : List Ln → Nat → List (List UInt8) → List Ln × Nat × Nat
 | told, _, [] => (told, 0, 0)
 | told, n, l :: ls => match tk told (n + 1) l with
  | .ok t => go t (n + 1) ls
  | .error e => ([], n + 1, e)
def linesOf (T : List UInt8) : List Ln × Nat × Nat := if 65536 < T.length then ([], 0, 2) else go [] 0 (piecesL T)
theorem cut10_ne (L : List UInt8) : cut10 L ≠ [] := by
 cases L with
 | nil => simp [cut10]
 | cons c L =>
  unfold cut10
  split
  ·
   simp
  ·
   split <;> simp
theorem cut10_cons_no {c : UInt8} (h : isN c = false) (L : List UInt8) {p : List UInt8} {ps : List (List UInt8)} (hp : cut10 L = p :: ps) : cut10 (c :: L) = (c :: p) :: ps := by
 rw [cut10, if_neg (by rw [h]; decide), hp]
theorem cut10_cons_yes {c : UInt8} (h : isN c = true) (L : List UInt8) : cut10 (c :: L) = [] :: cut10 L := by
 rw [cut10, if_pos h]
theorem cut10_join (a b : List UInt8) {c : UInt8} (hc : isN c = true) : cut10 (a ++ c :: b) = cut10 a ++ cut10 b := by
 induction a with
 | nil => rw [List.nil_append, cut10_cons_yes hc]; rfl
 | cons x a ih =>
  by_cases hx : isN x = true
  ·
   rw [List.cons_append, cut10_cons_yes hx, cut10_cons_yes hx, ih]; rfl
  ·
   have hx : isN x = false := by simpa using hx
   rcases ha : cut10 a with _ | ⟨p, ps⟩
   ·
    exact absurd ha (cut10_ne a)
   ·
    rw [ha] at ih
    rw [List.cons_append, cut10_cons_no hx a ha, cut10_cons_no hx _ (by rw [ih]; rfl)]; rfl
theorem cut10_plain {a : List UInt8} (h : ∀ c ∈ a, isN c = false) : cut10 a = [a] := by
 induction a with
 | nil => rfl
 | cons x a ih => exact cut10_cons_no (h x (by simp)) a (ih (fun c hc => h c (by simp [hc])))
theorem go_append (as bs : List (List UInt8)) : ∀ (told : List Ln) (n : Nat), go told n (as ++ bs) = if (go told n as).2.2 = 0 then go (go told n as).1 (n + as.length) bs else go told n as := by
 induction as with
 | nil => intro told n; simp [go]
 | cons a as ih =>
  intro told n
  rw [List.cons_append, go, go]
  rcases h : tk told (n + 1) a with e | t
  ·
   simp only
   rw [if_neg]
   -- an error is not 0
   unfold tk at h
   split at h
   ·
    cases h; decide
   ·
    split at h
    ·
     cases h
    ·
     split at h
     ·
      cases h; decide
     ·
      cases h
    ·
     split at h
     ·
      cases h; decide
     ·
      split at h
      ·
       cases h; decide
      ·
       cases h
  ·
   simp only
   rw [ih]
   simp only [List.length_cons]
   rw [show n + 1 + as.length = n + (as.length + 1) by omega]
theorem tk_err {told : List Ln} {n : Nat} {l : List UInt8} {e : Nat} (h : tk told n l = .error e) : e = 60 ∨ e = 61 ∨ e = 7 := by
 unfold tk at h
 split at h
 ·
  cases h; omega
 ·
  split at h
  ·
   cases h
  ·
   split at h
   ·
    cases h; omega
   ·
    cases h
  ·
   split at h
   ·
    cases h; omega
   ·
    split at h
    ·
     cases h; omega
    ·
     cases h
end X
end Go.Proofs.YtbmmiepjkamaeaaDoor

namespace Go.Proofs.YtbmmiepjkamaeaaDoor
namespace X
theorem all8 {P : UInt8 → Prop} (h : ∀ n, n < 256 → P (UInt8.ofNat n)) (c : UInt8) : P c := by
 have := h c.toNat c.toNat_lt
 rwa [UInt8.ofNat_toNat] at this
theorem tk_nil (told : List Ln) (n : Nat) : tk told n [] = .ok told := rfl
theorem go_pieces (T : List UInt8) (told : List Ln) (n : Nat) : go told n (piecesL T) = go told n (cut10 T) := by
 unfold piecesL
 split
 ·
  rename_i h
  have e : cut10 T = (cut10 T).dropLast ++ [[]] := by
   rw [List.getLast?_eq_some_iff] at h
   obtain ⟨ys, hy⟩ := h
   rw [hy, List.dropLast_concat]
  rw [e, List.dropLast_concat, go_append]
  split
  ·
   rename_i h0
   rw [go, tk_nil]
   simp only [go]
   -- an answer without an error has the place 0
   have aux : ∀ (ls : List (List UInt8)) (told : List Ln) (n : Nat), (go told n ls).2.2 = 0 → (go told n ls).2.1 = 0 := by
    intro ls
    induction ls with
    | nil => intro told n _; rfl
    | cons l ls ih =>
     intro told n h
     rw [go] at h ⊢
     rcases ht : tk told (n + 1) l with e | t
     ·
      rw [ht] at h
      simp only at h
      have := tk_err ht
      omega
     ·
      rw [ht] at h
      exact ih t (n + 1) h
   have h1 := aux _ _ _ h0
   generalize go told n (cut10 T).dropLast = r at h0 h1 ⊢
   obtain ⟨a, b, c⟩ := r
   simp only at h0 h1 ⊢
   rw [h0, h1]
  ·
   rfl
 ·
  rfl
theorem lines_go {T : List UInt8} (h : ¬ 65536 < T.length) : linesOf T = go [] 0 (cut10 T) := by
 unfold linesOf
 rw [if_neg h, go_pieces]
theorem lines_long {T : List UInt8} (h : 65536 < T.length) : linesOf T = ([], 0, 2) := by
 unfold linesOf
 rw [if_pos h]
theorem go_place (ls : List (List UInt8)) : ∀ (told : List Ln) (n : Nat), (go told n ls).2.1 ≤ n + ls.length := by
 induction ls with
 | nil => intro told n; exact Nat.zero_le _
 | cons l ls ih =>
  intro told n
  rw [go]
  rcases ht : tk told (n + 1) l with e | t
  ·
   simp
  ·
   have := ih t (n + 1)
   simp only [List.length_cons]
   omega
/- LexCase -/
def up (c : UInt8) : UInt8 := if 97 ≤ c.toNat ∧ c.toNat ≤ 122 then c - 32 else if c.toNat = 32 then 9 else c
/- LexJoined -/
def sh (n : Nat) (x : Ln) : Ln := (x.1 + n, x.2)
/- LexRemarks -/
def r1 : List UInt8 := [32, 59, 32, 114, 101, 109, 97, 114, 107, 32, 42, 32, 43, 32, 97]
def r2 : List UInt8 := [32, 9]
def r3 : List UInt8 := [42, 32, 109, 111, 114, 101, 59, 32, 98]
def ttl : List UInt8 := [42, 32, 116, 105, 116, 108, 101]
def rmk (c : UInt8) : List UInt8 := if isN c = true then r1 ++ 10 :: (r2 ++ 10 :: (r3 ++ [10])) else [c]
def rmks (T : List UInt8) : List UInt8 := ttl ++ 10 :: 10 :: T.flatMap rmk
def inter : List (List UInt8) → List (List UInt8)
 | [] => []
 | [p] => [p]
 | p :: q :: ps => (p ++ r1) :: r2 :: r3 :: inter (q :: ps)
def th (x : Ln) : Ln := (3 * x.1, x.2)
end X
end Go.Proofs.YtbmmiepjkamaeaaDoor

namespace Go.Proofs.YtbmmiepjkamaeaaDoor
namespace X
def okC (c : UInt8) : Bool := decide (33 ≤ c.toNat ∧ c.toNat ≤ 126 ∧ c.toNat ≠ 59 ∧ ¬ (65 ≤ c.toNat ∧ c.toNat ≤ 90))
def OkW (w : List UInt8) : Prop := w ≠ [] ∧ ∀ c ∈ w, okC c = true
def OkS (ws : List (List UInt8)) : Prop := ws ≠ [] ∧ ws.length ≤ 64 ∧ (∀ w ∈ ws, OkW w) ∧ ∀ w, ws.head? = some w → isC 42 w = false ∧ isC 43 w = false
theorem ok_sm (c : UInt8) : okB c = true → isB c = false → isR c = false → okC (sm c) = true := all8 (P := fun c => okB c = true → isB c = false → isR c = false → okC (sm c) = true) (by decide +kernel) c
theorem emit_ok {cur : List UInt8} (h : ∀ c ∈ cur, okB c = true ∧ isB c = false ∧ isR c = false) : ∀ w ∈ emit cur, OkW w := by
 intro w hw
 unfold emit at hw
 split at hw
 ·
  simp at hw
 ·
  rename_i hn
  rw [List.mem_singleton] at hw
  subst hw
  refine ⟨by simpa using hn, fun c hc => ?_⟩
  obtain ⟨x, hx, rfl⟩ := List.mem_map.1 hc
  exact ok_sm x (h x hx).1 (h x hx).2.1 (h x hx).2.2
theorem wd_ok (L : List UInt8) : ∀ cur : List UInt8, (∀ c ∈ L, okB c = true ∧ isR c = false) → (∀ c ∈ cur, okB c = true ∧ isB c = false ∧ isR c = false) → ∀ w ∈ wd cur L, OkW w := by
 induction L with
 | nil => intro cur _ h; exact emit_ok h
 | cons x L ih =>
  intro cur hL h
  rw [wd]
  by_cases hb : isB x = true
  ·
   rw [if_pos hb]
   intro w hw
   rcases List.mem_append.1 hw with hw | hw
   ·
    exact emit_ok h w hw
   ·
    exact ih [] (fun c hc => hL c (by simp [hc])) (by simp) w hw
  ·
   rw [if_neg hb]
   refine ih _ (fun c hc => hL c (by simp [hc])) (fun c hc => ?_)
   rcases List.mem_append.1 hc with hc | hc
   ·
    exact h c hc
   ·
    rw [List.mem_singleton] at hc; subst hc
    exact ⟨(hL c (by simp)).1, by simpa using hb, (hL c (by simp)).2⟩
theorem words_ok {l : List UInt8} (h : l.all okB = true) : ∀ w ∈ wordsL l, OkW w := by
 refine wd_ok _ [] (fun c hc => ?_) (by simp)
 have h1 := List.all_takeWhile (p := fun c => !isR c) (l := l)
 rw [List.all_eq_true] at h1
 have h2 := h1 c hc
 exact ⟨List.all_eq_true.1 h c ((List.takeWhile_sublist _).subset hc), by simpa using h2⟩
theorem tk_ok {told t : List Ln} {n : Nat} {l : List UInt8} (h : ∀ x ∈ told, OkS x.2) (ht : tk told n l = .ok t) : ∀ x ∈ t, OkS x.2 := by
 unfold tk at ht
 split at ht
 ·
  cases ht
 ·
  rename_i ho
  have hw := words_ok (l := l) (by simpa using ho)
  rcases hws : wordsL l with _ | ⟨w0, ws⟩
  ·
   rw [hws] at ht; cases ht; exact h
  ·
   rw [hws] at ht hw
   rw [kd] at ht
   by_cases h42 : isC 42 w0 = true
   ·
    rw [if_pos h42] at ht; cases ht; exact h
   ·
    rw [if_neg h42] at ht
    by_cases h43 : isC 43 w0 = true
    ·
     rw [if_pos h43] at ht
     simp only at ht
     have hnew : ∀ w ∈ (if w0.tail = [] then ws else w0.tail :: ws), OkW w := by
      intro w hw'
      split at hw'
      ·
       exact hw w (by simp [hw'])
      ·
       rename_i hn
       rcases List.mem_cons.1 hw' with rfl | hw'
       ·
        exact ⟨hn, fun c hc => (hw w0 (by simp)).2 c (List.mem_of_mem_tail hc)⟩
       ·
        exact hw w (by simp [hw'])
     generalize (if w0.tail = [] then ws else w0.tail :: ws) = wn at ht hnew
     rcases List.eq_nil_or_concat told with rfl | ⟨t0, y, rfl⟩
     ·
      cases ht
     ·
      simp only [List.concat_eq_append, List.getLast?_concat, List.dropLast_concat] at ht
      by_cases h6 : 64 < (y.2 ++ wn).length
      ·
       rw [if_pos h6] at ht; cases ht
      ·
       rw [if_neg h6] at ht
       cases ht
       intro x hx
       rcases List.mem_append.1 hx with hx | hx
       ·
        exact h x (by simp [hx])
       ·
        rw [List.mem_singleton] at hx; subst hx
        obtain ⟨a1, a2, a3, a4⟩ := h y (by simp)
        refine ⟨by simp [a1], Nat.le_of_not_lt h6, fun w hw' => ?_, fun w hh => ?_⟩
        ·
         rcases List.mem_append.1 hw' with hw' | hw'
         ·
          exact a3 w hw'
         ·
          exact hnew w hw'
        ·
         rcases hy : y.2 with _ | ⟨z, zs⟩
         ·
          exact absurd hy a1
         ·
          simp only [hy, List.cons_append, List.head?_cons, Option.some.injEq] at hh
          exact a4 w (by rw [hy, ← hh]; rfl)
    ·
     rw [if_neg h43] at ht
     simp only at ht
     split at ht
     ·
      cases ht
     ·
      rename_i h6
      cases ht
      intro x hx
      rcases List.mem_append.1 hx with hx | hx
      ·
       exact h x hx
      ·
       rw [List.mem_singleton] at hx; subst hx
       refine ⟨by simp, Nat.le_of_not_lt h6, hw, fun w hh => ?_⟩
       simp at hh
       subst hh
       exact ⟨by simpa using h42, by simpa using h43⟩
theorem go_ok (ls : List (List UInt8)) : ∀ (told : List Ln) (n : Nat), (∀ x ∈ told, OkS x.2) → ∀ x ∈ (go told n ls).1, OkS x.2 := by
 induction ls with
 | nil => intro told n h; exact h
 | cons l ls ih =>
  intro told n h
  rw [go]
  rcases ht : tk told (n + 1) l with e | t
  ·
   intro x hx; simp at hx
  ·
   exact ih t (n + 1) (tk_ok h ht)
def Rise : Nat → List Ln → Prop
 | _, [] => True
 | k, x :: l => k < x.1 ∧ Rise x.1 l
theorem rise_snoc {l : List Ln} : ∀ {k n : Nat} {ws : List (List UInt8)}, Rise k l → (∀ x ∈ l, x.1 < n) → k < n → Rise k (l ++ [(n, ws)]) := by
 induction l with
 | nil => intro k n ws _ _ h; exact ⟨h, trivial⟩
 | cons x l ih => intro k n ws h h2 _; exact ⟨h.1, ih h.2 (fun y hy => h2 y (by simp [hy])) (h2 x (by simp))⟩
theorem rise_last {l : List Ln} : ∀ {k : Nat} {y : Ln} {ws : List (List UInt8)}, Rise k (l ++ [y]) → Rise k (l ++ [(y.1, ws)]) := by
 induction l with
 | nil => intro k y ws h; exact ⟨h.1, trivial⟩
 | cons x l ih => intro k y ws h; exact ⟨h.1, ih h.2⟩
theorem tk_rise {told t : List Ln} {n : Nat} {l : List UInt8} (h : Rise 0 told) (h2 : ∀ x ∈ told, x.1 < n + 1) (ht : tk told (n + 1) l = .ok t) : Rise 0 t ∧ ∀ x ∈ t, x.1 < n + 1 + 1 := by
 unfold tk at ht
 split at ht
 ·
  cases ht
 ·
  split at ht
  ·
   cases ht; exact ⟨h, fun x hx => by have := h2 x hx; omega⟩
  ·
   split at ht
   ·
    cases ht
   ·
    cases ht
    refine ⟨rise_snoc h h2 (by omega), fun x hx => ?_⟩
    rcases List.mem_append.1 hx with hx | hx
    ·
     have := h2 x hx; omega
    ·
     rw [List.mem_singleton] at hx; subst hx; exact Nat.lt_succ_self _
  ·
   rcases List.eq_nil_or_concat told with rfl | ⟨t0, y, rfl⟩
   ·
    cases ht
   ·
    simp only [List.concat_eq_append, List.getLast?_concat, List.dropLast_concat] at ht h h2
    split at ht
    ·
     cases ht
    ·
     cases ht
     refine ⟨rise_last h, fun x hx => ?_⟩
     rcases List.mem_append.1 hx with hx | hx
     ·
      have := h2 x (by simp [hx]); omega
     ·
      rw [List.mem_singleton] at hx; subst hx
      have := h2 y (by simp)
      show y.1 < _
      omega
theorem go_rise (ls : List (List UInt8)) : ∀ (told : List Ln) (n : Nat), Rise 0 told → (∀ x ∈ told, x.1 < n + 1) → Rise 0 (go told n ls).1 ∧ ∀ x ∈ (go told n ls).1, x.1 ≤ n + ls.length := by
 induction ls with
 | nil => intro told n h h2; exact ⟨h, fun x hx => by have := h2 x hx; simp; omega⟩
 | cons l ls ih =>
  intro told n h h2
  rw [go]
  rcases ht : tk told (n + 1) l with e | t
  ·
   exact ⟨trivial, fun x hx => by simp at hx⟩
  ·
   have := tk_rise h h2 ht
   have := ih t (n + 1) this.1 this.2
   refine ⟨this.1, fun x hx => ?_⟩
   have := this.2 x hx
   simp only [List.length_cons]
   omega
theorem lines_ok (T : List UInt8) : (∀ x ∈ (linesOf T).1, OkS x.2) ∧ Rise 0 (linesOf T).1 := by
 by_cases h : 65536 < T.length
 ·
  rw [lines_long h]; exact ⟨fun x hx => by simp at hx, trivial⟩
 ·
  rw [lines_go h]
  exact ⟨go_ok _ [] 0 (by simp), (go_rise _ [] 0 trivial (by simp)).1⟩
def joinW : List (List UInt8) → List UInt8
 | [] => []
 | w :: ws => w ++ ws.flatMap (fun x => 32 :: x)
def outL (l : List Ln) : List UInt8 := l.flatMap (fun x => joinW x.2 ++ [10])
def num1 : Nat → List Ln → List Ln
 | _, [] => []
 | n, x :: l => (n + 1, x.2) :: num1 (n + 1) l
end X
end Go.Proofs.YtbmmiepjkamaeaaDoor
