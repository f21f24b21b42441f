/- Nothing old has turned: Kept, and its laws. Variables of many cells. Patterns of a square matrix and what elimination does to them: the mathematics of layer 13. Rows as words: bits, and how many of them there are (math/bits.OnesCount64's arithmetic). -/
import Derived.Test.YtojbncpifpghgaaProg
import Derived.WalkKit
import Derived.WalkSpells
import Derived.WalkLawsBesides
import Derived.Deep.OwnRows
import Derived.Deep.QuietTactic
import Derived.BigQuiet
import Derived.Outline
import Derived.KernelRfl
namespace Go.Proofs.Ytojbncpifpghgaa
open Go.RowKit
def Kept (w w':World):Prop:=Below w.heap.size w w'
theorem Kept.refl (w:World):Kept w w:=Below.refl _ _
theorem Kept.trans {a b c:World} (h:Kept a b) (k:Kept b c):Kept a c:=Below.trans h (Below.mono k h.size)
theorem Kept.drew {a b:World} (h:Kept a b):Kept a b.drew:=Below.drew h
theorem Kept.drewN {a b:World} (h:Kept a b) (n:Nat):Kept a (b.drewN n):=⟨h.os,h.tape,h.output,h.size,h.block⟩
theorem Kept.alloc {a b:World} (h:Kept a b) (o:Obj):Kept a (b.alloc o):=Below.alloc h h.size o
theorem Kept.setCell {a b:World} (h:Kept a b) {p:Addr} (hp:a.heap.size≤p.block) (u:Value):Kept a (b.setCell p u):=Below.setCell h hp u
end Go.Proofs.Ytojbncpifpghgaa

namespace Go.Proofs.Ytojbncpifpghgaa
open Go.RowKit
namespace V
def RowL (t:TypeId) (w:World) (p:Nat) (xs:List Value):Prop:=w.rowIs p t xs.length (fun i => xs.getD i undef)
theorem RowL.alloc (t:TypeId) (w:World) (xs:List Value):RowL t (w.alloc (.cells xs.toArray t)) w.heap.size xs:=by
 have:=World.rowIs_alloc w xs.toArray t (fun i => xs.getD i undef) (fun i hi => by
  have hi':i < xs.length:=by simpa using hi
  simp [hi'])
 simpa [RowL] using this
section
variable {t:TypeId} {w w':World} {p q:Nat} {xs:List Value}
theorem RowL.lt (h:RowL t w p xs):p < w.heap.size:=World.rowIs.lt h
theorem RowL.cell (h:RowL t w p xs) (i:Nat) (u:Value) (hi:xs[i]? = some u:=by rfl):w.cell? ⟨p,i,none⟩ = some u:=by
 have hl:=(List.getElem?_eq_some_iff.1 hi).1
 have:=World.rowIs.cell h (i:=i) hl
 rw [this]
 show some (xs.getD i undef) = some u
 rw [List.getD_eq_getElem?_getD,hi]
 rfl
theorem RowL.fz (h:RowL t w p xs) (i:Nat):w.frozen? ⟨p,i,none⟩ = false:=World.rowIs.frozen h i
theorem RowL.kept (h:RowL t w p xs) (k:Kept w w'):RowL t w' p xs:=World.rowIs.of_block h (k.block p h.lt)
theorem RowL.block (h:RowL t w p xs) (k:w'.heap[p]? = w.heap[p]?):RowL t w' p xs:=World.rowIs.of_block h k
theorem RowL.set (h:RowL t w p xs) (i:Nat) (v:Value):RowL t (w.setCell ⟨p,i,none⟩ v) p (xs.set i v):=by
 have:=World.rowIs.set h i v
 unfold RowL
 rw [List.length_set]
 refine this.congr (fun j hj => ?_)
 show (if j = i then v else xs.getD j undef) = (xs.set i v).getD j undef
 by_cases e:j = i
 ·
  subst e
  rw [if_pos rfl,List.getD_eq_getElem?_getD,List.getElem?_set_self hj]
  rfl
 ·
  rw [if_neg e,List.getD_eq_getElem?_getD,List.getD_eq_getElem?_getD,List.getElem?_set_ne (fun h => e h.symm)]
theorem RowL.far (h:RowL t w p xs) (hne:p ≠ q) (i:Nat) (v:Value):RowL t (w.setCell ⟨q,i,none⟩ v) p xs:=World.rowIs.setOther h hne v
end
end V
end Go.Proofs.Ytojbncpifpghgaa

namespace Go.Proofs.Ytojbncpifpghgaa
namespace Sp
def rowL (n:Nat) (m:Nat→Nat→Bool) (i:Nat):List Nat:=(List.range n).filter (m i)
def colL (n:Nat) (m:Nat→Nat→Bool) (k:Nat):List Nat:=(List.range n).filter (fun i => m i k)
def cost (n:Nat) (m:Nat→Nat→Bool) (r c:Nat):Int:=((rowL n m r).length - 1:Int) * ((colL n m c).length - 1:Int)
def elim (m:Nat→Nat→Bool) (r c:Nat):Nat→Nat→Bool:=fun i k => decide (i ≠ r) && (decide (k ≠ c) && (m i k || (m i c && m r k)))
def places (n:Nat) (p:Nat→Nat→Bool):List (Nat × Nat):=(List.range n).flatMap fun i => ((List.range n).filter (p i)).map fun k => (i,k)
def fillC (n:Nat) (m:Nat→Nat→Bool) (r c:Nat):Nat:=((List.range n).map fun i => ((List.range n).filter fun k => !m i k && (m i c && m r k)).length).sum
def tr (m:Nat→Nat→Bool):Nat→Nat→Bool:=fun i k => m k i
/- Turned. -/
/- The best place. -/
structure IsBest (n:Nat) (m:Nat→Nat→Bool) (r c:Nat):Prop where
 row:r < n
 col:c < n
 isin:m r c = true
 least:∀ i k,i < n→k < n→m i k = true→cost n m r c < cost n m i k ∨ (cost n m r c = cost n m i k∧(r < i ∨ (r = i∧c≤k)))
theorem IsBest.unique {n:Nat} {m:Nat→Nat→Bool} {r c r' c':Nat} (h:IsBest n m r c) (h':IsBest n m r' c'):r = r'∧c = c':=by
 have a:=h.least r' c' h'.row h'.col h'.isin
 have b:=h'.least r c h.row h.col h.isin
 omega
def less (n:Nat) (m:Nat→Nat→Bool) (o:Option (Nat × Nat)) (p:Nat × Nat):Option (Nat × Nat) :=
 if m p.1 p.2 = true then (match o with
  | none => some p
  | some q => if cost n m p.1 p.2 < cost n m q.1 q.2 then some p else some q) else o
def square (n:Nat):List (Nat × Nat):=(List.range n).flatMap fun i => (List.range n).map fun k => (i,k)
def bestOf (n:Nat) (m:Nat→Nat→Bool):Option (Nat × Nat):=(square n).foldl (less n m) none
theorem mem_square {n:Nat} {p:Nat × Nat}:p ∈ square n ↔ p.1 < n∧p.2 < n:=by
 unfold square
 rw [List.mem_flatMap]
 constructor
 ·
  rintro ⟨i,hi,h⟩
  obtain ⟨k,hk,rfl⟩:=List.mem_map.1 h
  exact ⟨List.mem_range.1 hi,List.mem_range.1 hk⟩
 ·
  rintro ⟨h1,h2⟩
  exact ⟨p.1,List.mem_range.2 h1,List.mem_map.2 ⟨p.2,List.mem_range.2 h2,rfl⟩⟩
def ahead (p q:Nat × Nat):Prop:=p.1 < q.1 ∨ (p.1 = q.1∧p.2 < q.2)
theorem square_rises (n:Nat):(square n).Pairwise ahead:=by
 unfold square
 rw [List.pairwise_flatMap]
 refine ⟨fun i _ => ?_,?_⟩
 ·
  rw [List.pairwise_map]
  exact List.pairwise_lt_range.imp fun h => Or.inr ⟨rfl,h⟩
 ·
  refine List.pairwise_lt_range.imp fun {i j} h x hx y hy => ?_
  obtain ⟨_,_,rfl⟩:=List.mem_map.1 hx
  obtain ⟨_,_,rfl⟩:=List.mem_map.1 hy
  exact Or.inl h
def IsLeast (n:Nat) (m:Nat→Nat→Bool) (l:List (Nat × Nat)):Option (Nat × Nat)→Prop
 | none => ∀ p ∈ l,m p.1 p.2 = false
 | some q => q ∈ l∧m q.1 q.2 = true∧∀ p ∈ l,m p.1 p.2 = true→cost n m q.1 q.2 < cost n m p.1 p.2 ∨ (cost n m q.1 q.2 = cost n m p.1 p.2∧(q = p ∨ ahead q p))
theorem least_step (n:Nat) (m:Nat→Nat→Bool) (l:List (Nat × Nat)) (p:Nat × Nat) (o:Option (Nat × Nat)) (hp:∀ q ∈ l,ahead q p) (h:IsLeast n m l o):IsLeast n m (l ++ [p]) (less n m o p):=by
 unfold less
 by_cases hm:m p.1 p.2 = true
 ·
  rw [if_pos hm]
  cases o with
  | none =>
   refine ⟨List.mem_append_right _ (List.mem_singleton.2 rfl),hm,fun x hx hxm => ?_⟩
   rcases List.mem_append.1 hx with hx | hx
   ·
    rw [h x hx] at hxm; cases hxm
   ·
    rw [List.mem_singleton.1 hx]; exact Or.inr ⟨rfl,Or.inl rfl⟩
  | some q =>
   obtain ⟨h1,h2,h3⟩:=h
   show IsLeast n m (l ++ [p]) (if cost n m p.1 p.2 < cost n m q.1 q.2 then some p else some q)
   by_cases hc:cost n m p.1 p.2 < cost n m q.1 q.2
   ·
    rw [if_pos hc]
    refine ⟨List.mem_append_right _ (List.mem_singleton.2 rfl),hm,fun x hx hxm => ?_⟩
    rcases List.mem_append.1 hx with hx | hx
    ·
     have:=h3 x hx hxm
     left
     omega
    ·
     rw [List.mem_singleton.1 hx]; exact Or.inr ⟨rfl,Or.inl rfl⟩
   ·
    rw [if_neg hc]
    refine ⟨List.mem_append_left _ h1,h2,fun x hx hxm => ?_⟩
    rcases List.mem_append.1 hx with hx | hx
    ·
     exact h3 x hx hxm
    ·
     rw [List.mem_singleton.1 hx]
     by_cases he:cost n m q.1 q.2 = cost n m p.1 p.2
     ·
      exact Or.inr ⟨he,Or.inr (hp q h1)⟩
     ·
      left; omega
 ·
  rw [if_neg hm]
  cases o with
  | none =>
   intro x hx
   rcases List.mem_append.1 hx with hx | hx
   ·
    exact h x hx
   ·
    rw [List.mem_singleton.1 hx]; simpa using hm
  | some q =>
   obtain ⟨h1,h2,h3⟩:=h
   refine ⟨List.mem_append_left _ h1,h2,fun x hx hxm => ?_⟩
   rcases List.mem_append.1 hx with hx | hx
   ·
    exact h3 x hx hxm
   ·
    rw [List.mem_singleton.1 hx] at hxm; exact absurd hxm hm
theorem least_all (n:Nat) (m:Nat→Nat→Bool) (l':List (Nat × Nat)):∀ (l:List (Nat × Nat)) (o:Option (Nat × Nat)),(l ++ l').Pairwise ahead→IsLeast n m l o→IsLeast n m (l ++ l') (l'.foldl (less n m) o):=by
 induction l' with
 | nil => intro l o _ h; rw [List.append_nil]; exact h
 | cons p t ih =>
  intro l o hw h
  have h1:l ++ p :: t = (l ++ [p]) ++ t:=by simp
  rw [h1] at hw ⊢
  rw [List.foldl_cons]
  refine ih _ _ hw (least_step n m l p o (fun q hq => ?_) h)
  rw [List.append_assoc,List.pairwise_append] at hw
  exact hw.2.2 q hq p (List.mem_cons_self ..)
theorem best_least (n:Nat) (m:Nat→Nat→Bool):IsLeast n m (square n) (bestOf n m) :=
 least_all n m (square n) [] none (square_rises n) (fun p hp => by cases hp)
theorem best_some {n:Nat} {m:Nat→Nat→Bool} {r c:Nat}:bestOf n m = some (r,c) ↔ IsBest n m r c:=by
 have hb:=best_least n m
 constructor
 ·
  intro h
  rw [h] at hb
  obtain ⟨h1,h2,h3⟩:=hb
  have h4:=mem_square.1 h1
  refine ⟨h4.1,h4.2,h2,fun i k hi hk hm => ?_⟩
  rcases h3 (i,k) (mem_square.2 ⟨hi,hk⟩) hm with h5 | ⟨h5,h6⟩
  ·
   exact Or.inl h5
  ·
   refine Or.inr ⟨h5,?_⟩
   rcases h6 with h6 | h6 | ⟨h6,h7⟩
   ·
    simp only [Prod.mk.injEq] at h6
    omega
   ·
    exact Or.inl h6
   ·
    exact Or.inr ⟨h6,by have:c < k:=h7; omega⟩
 ·
  intro h
  cases hq:bestOf n m with
  | none =>
   rw [hq] at hb
   have:=hb (r,c) (mem_square.2 ⟨h.row,h.col⟩)
   rw [h.isin] at this
   cases this
  | some q =>
   rw [hq] at hb
   obtain ⟨h1,h2,h3⟩:=hb
   have h4:=mem_square.1 h1
   have h5:IsBest n m q.1 q.2:=⟨h4.1,h4.2,h2,fun i k hi hk hm => by
    rcases h3 (i,k) (mem_square.2 ⟨hi,hk⟩) hm with h5 | ⟨h5,h6⟩
    ·
     exact Or.inl h5
    ·
     refine Or.inr ⟨h5,?_⟩
     rcases h6 with h6 | h6 | ⟨h6,h7⟩
     ·
      rw [h6]; exact Or.inr ⟨rfl,Nat.le_refl _⟩
     ·
      exact Or.inl h6
     ·
      exact Or.inr ⟨h6,Nat.le_of_lt h7⟩⟩
   obtain ⟨e1,e2⟩:=h.unique h5
   rw [e1,e2]
/- The order. -/
def orderL (n:Nat):Nat→(Nat→Nat→Bool)→List (Nat × Nat)
 | 0,_ => []
 | k + 1,m => match bestOf n m with
  | none => []
  | some q => q :: orderL n k (elim m q.1 q.2)
def leftL (m:Nat→Nat→Bool):List (Nat × Nat)→Nat→Nat→Bool
 | [] => m
 | q :: t => leftL (elim m q.1 q.2) t
def fitsL (n:Nat) (m:Nat→Nat→Bool):List (Nat × Nat)→Prop
 | [] => True
 | q :: t => q.1 < n∧q.2 < n∧m q.1 q.2 = true∧fitsL n (elim m q.1 q.2) t
def fillL (n:Nat) (m:Nat→Nat→Bool):List (Nat × Nat)→Nat
 | [] => 0
 | q :: t => fillC n m q.1 q.2 + fillL n (elim m q.1 q.2) t
def live (n:Nat) (m:Nat→Nat→Bool):List Nat:=(List.range n).filter fun i => (List.range n).any (m i)
theorem elim_row (m:Nat→Nat→Bool) (r c k:Nat):elim m r c r k = false:=by
 unfold elim
 simp
theorem elim_empty_row {n:Nat} {m:Nat→Nat→Bool} {i:Nat} (r c:Nat) (hc:c < n) (h:∀ k,k < n→m i k = false):∀ k,k < n→elim m r c i k = false:=by
 intro k hk
 unfold elim
 rw [h k hk,h c hc]
 simp
theorem filter_le {α:Type} (l:List α) (p q:α→Bool) (h:∀ x ∈ l,p x = true→q x = true):(l.filter p).length≤(l.filter q).length:=by
 induction l with
 | nil => exact Nat.le_refl _
 | cons x t ih =>
  have ih:=ih fun y hy => h y (List.mem_cons_of_mem _ hy)
  rw [List.filter_cons,List.filter_cons]
  by_cases hp:p x = true
  ·
   rw [if_pos hp,if_pos (h x (List.mem_cons_self ..) hp),List.length_cons,List.length_cons]
   omega
  ·
   rw [if_neg hp]
   split
   ·
    rw [List.length_cons]; omega
   ·
    exact ih
theorem filter_lt {α:Type} (l:List α) (p q:α→Bool) (h:∀ x ∈ l,p x = true→q x = true) (a:α) (ha:a ∈ l) (h1:p a = false) (h2:q a = true):(l.filter p).length < (l.filter q).length:=by
 induction l with
 | nil => cases ha
 | cons x t ih =>
  have hle:=filter_le t p q fun y hy => h y (List.mem_cons_of_mem _ hy)
  rw [List.filter_cons,List.filter_cons]
  rcases List.mem_cons.1 ha with rfl | ha
  ·
   rw [if_neg (by rw [h1]; decide),if_pos h2,List.length_cons]
   omega
  ·
   have ih:=ih (fun y hy => h y (List.mem_cons_of_mem _ hy)) ha
   by_cases hp:p x = true
   ·
    rw [if_pos hp,if_pos (h x (List.mem_cons_self ..) hp),List.length_cons,List.length_cons]
    omega
   ·
    rw [if_neg hp]
    split
    ·
     rw [List.length_cons]; omega
    ·
     exact ih
theorem live_falls {n:Nat} {m:Nat→Nat→Bool} {r c:Nat} (hr:r < n) (hc:c < n) (h:m r c = true):(live n (elim m r c)).length < (live n m).length:=by
 unfold live
 refine filter_lt _ _ _ (fun i hi h1 => ?_) r (List.mem_range.2 hr) ?_ ?_
 ·
  obtain ⟨k,hk,h2⟩:=List.any_eq_true.1 h1
  rw [List.any_eq_true]
  apply Classical.byContradiction
  intro hno
  have h3:=elim_empty_row (n:=n) (m:=m) (i:=i) r c hc (fun k hk => by
   cases e:m i k with
   | false => rfl
   | true => exact absurd ⟨k,List.mem_range.2 hk,e⟩ hno) k (List.mem_range.1 hk)
  rw [h3] at h2
  cases h2
 ·
  rw [List.any_eq_false]
  intro k _
  rw [elim_row]
  decide
 ·
  exact List.any_eq_true.2 ⟨c,List.mem_range.2 hc,h⟩
theorem live_le (n:Nat) (m:Nat→Nat→Bool):(live n m).length≤n:=by
 have:=List.length_filter_le (fun i => (List.range n).any (m i)) (List.range n)
 rw [List.length_range] at this
 exact this
/- Turned: an order fits,and has the same fill. -/
/- A forest: points in a row,each hangs on one earlier point at most. -/
structure Forest (n:Nat) (m:Nat→Nat→Bool):Prop where
 row:∀ i k k',i < n→k < n→k' < n→m i k = true→m i k' = true→2 * k + 1 < 2 * i→2 * k' + 1 < 2 * i→k = k'
 col:∀ i i' k,i < n→i' < n→k < n→m i k = true→m i' k = true→2 * i < 2 * k + 1→2 * i' < 2 * k + 1→i = i'
theorem Forest.sub {n:Nat} {m m':Nat→Nat→Bool} (h:Forest n m) (hs:∀ i k,i < n→k < n→m' i k = true→m i k = true):Forest n m' :=
 ⟨fun i k k' hi hk hk' h1 h2 => h.row i k k' hi hk hk' (hs _ _ hi hk h1) (hs _ _ hi hk' h2),fun i i' k hi hi' hk h1 h2 => h.col i i' k hi hi' hk (hs _ _ hi hk h1) (hs _ _ hi' hk h2)⟩
end Sp
end Go.Proofs.Ytojbncpifpghgaa

namespace Go.Proofs.Ytojbncpifpghgaa
namespace Sp
def wd:Nat→(Nat→Bool)→Nat
 | 0,_ => 0
 | k + 1,f => wd k f + (if f k = true then 2 ^ k else 0)
theorem wd_lt (n:Nat) (f:Nat→Bool):wd n f < 2 ^ n:=by
 induction n with
 | zero => exact Nat.one_pos
 | succ n ih =>
  show wd n f + (if f n = true then 2 ^ n else 0) < 2 ^ (n + 1)
  rw [Nat.pow_succ]
  split <;> omega
theorem wd_bit (n:Nat) (f:Nat→Bool) (k:Nat):(wd n f).testBit k = (decide (k < n) && f k):=by
 induction n with
 | zero => show (0:Nat).testBit k = _; simp
 | succ n ih =>
  have hl:=wd_lt n f
  show (wd n f + (if f n = true then 2 ^ n else 0)).testBit k = _
  by_cases hf:f n = true
  ·
   rw [if_pos hf,Nat.add_comm]
   rcases Nat.lt_trichotomy k n with h | h | h
   ·
    rw [Nat.testBit_two_pow_add_gt h,ih,decide_eq_true h,decide_eq_true (by omega)]
   ·
    subst h
    rw [Nat.testBit_two_pow_add_eq,ih,hf,decide_eq_false (Nat.lt_irrefl _),decide_eq_true (Nat.lt_succ_self _)]
    rfl
   ·
    rw [Nat.testBit_lt_two_pow (Nat.lt_of_lt_of_le (show 2 ^ n + wd n f < 2 ^ (n + 1) by rw [Nat.pow_succ]; omega) (Nat.pow_le_pow_right (by omega) h)),decide_eq_false (by omega)]
    rfl
  ·
   rw [if_neg hf,Nat.add_zero,ih]
   rcases Nat.lt_trichotomy k n with h | h | h
   ·
    rw [decide_eq_true h,decide_eq_true (by omega)]
   ·
    subst h
    simp at hf
    rw [hf]; simp
   ·
    rw [decide_eq_false (by omega),decide_eq_false (by omega)]
theorem wd_ext {n x:Nat} {f:Nat→Bool} (hx:x < 2 ^ n) (h:∀ k,k < n→x.testBit k = f k):x = wd n f:=by
 apply Nat.eq_of_testBit_eq
 intro k
 rw [wd_bit]
 by_cases hk:k < n
 ·
  rw [h k hk,decide_eq_true hk]; rfl
 ·
  rw [decide_eq_false hk,Nat.testBit_lt_two_pow (Nat.lt_of_lt_of_le hx (Nat.pow_le_pow_right (by omega) (by omega)))]; rfl
theorem wd_congr {n:Nat} {f g:Nat→Bool} (h:∀ k,k < n→f k = g k):wd n f = wd n g:=by
 refine wd_ext (wd_lt n f) fun k hk => ?_
 rw [wd_bit,decide_eq_true hk,h k hk]; rfl
theorem wd_zero (n:Nat):wd n (fun _ => false) = 0:=by
 induction n with
 | zero => rfl
 | succ n ih => show wd n _ + 0 = 0; rw [ih]
theorem wd_or (n:Nat) (f g:Nat→Bool):wd n f ||| wd n g = wd n (fun k => f k || g k):=by
 refine wd_ext (Nat.or_lt_two_pow (wd_lt n f) (wd_lt n g)) fun k hk => ?_
 rw [Nat.testBit_or,wd_bit,wd_bit,decide_eq_true hk]; rfl
theorem wd_bit1 {n c:Nat} (h:c < n):2 ^ c = wd n (fun k => decide (k = c)):=by
 refine wd_ext (Nat.pow_lt_pow_right (by omega) h) fun k hk => ?_
 rw [Nat.testBit_two_pow]
 by_cases e:k = c
 ·
  rw [decide_eq_true e,decide_eq_true e.symm]
 ·
  rw [decide_eq_false e,decide_eq_false (fun h => e h.symm)]
theorem wd_and1 {n c:Nat} (f:Nat→Bool) (h:c < n):wd n f &&& 2 ^ c = if f c = true then 2 ^ c else 0:=by
 apply Nat.eq_of_testBit_eq
 intro k
 rw [Nat.testBit_and,wd_bit,Nat.testBit_two_pow]
 by_cases e:c = k
 ·
  subst e
  rw [decide_eq_true h,decide_eq_true rfl]
  cases f c with
  | false => simp
  | true => simp
 ·
  rw [decide_eq_false e,Bool.and_false]
  split
  ·
   rw [Nat.testBit_two_pow,decide_eq_false e]
  ·
   simp
theorem wd_not {n:Nat} (hn:n≤64) (f g:Nat→Bool):wd n f &&& (18446744073709551616 - (wd n g + 1)) = wd n (fun k => f k && !g k):=by
 have hg:wd n g < 18446744073709551616:=Nat.lt_of_lt_of_le (wd_lt n g) (Nat.pow_le_pow_right (n:=2) (by omega) hn)
 refine wd_ext (Nat.lt_of_le_of_lt Nat.and_le_left (wd_lt n f)) fun k hk => ?_
 rw [Nat.testBit_and,wd_bit,Nat.testBit_two_pow_sub_succ (n:=64) hg,wd_bit,decide_eq_true hk,decide_eq_true (by omega)]
 rfl
theorem wd_u64 {n:Nat} (hn:n≤64) (f:Nat→Bool):wd n f < 18446744073709551616:=Nat.lt_of_lt_of_le (wd_lt n f) (Nat.pow_le_pow_right (n:=2) (by omega) hn)
/- How many bits: of bytes,then of words. -/
def bitsC (x k:Nat):Nat:=((List.range k).filter x.testBit).length
theorem bitsC_split (x k:Nat):bitsC x (8 + k) = bitsC (x % 256) 8 + bitsC (x / 256) k:=by
 unfold bitsC
 rw [List.range_add,List.filter_append,List.length_append,List.filter_map,List.length_map]
 congr 2
 ·
  refine List.filter_congr fun i hi => ?_
  rw [show (256:Nat) = 2 ^ 8 from rfl,Nat.testBit_mod_two_pow,decide_eq_true (List.mem_range.1 hi)]; rfl
 ·
  refine List.filter_congr fun i _ => ?_
  show x.testBit (8 + i) = (x / 256).testBit i
  rw [show (256:Nat) = 2 ^ 8 from rfl,Nat.testBit_div_two_pow,Nat.add_comm]
theorem bitsC_wd {n k:Nat} (h:n≤k) (f:Nat→Bool):bitsC (wd n f) k = ((List.range n).filter f).length:=by
 obtain ⟨d,rfl⟩:∃ d,k = n + d:=⟨k - n,by omega⟩
 unfold bitsC
 rw [List.range_add,List.filter_append,List.length_append,List.filter_map,List.length_map]
 rw [show (List.range n).filter (wd n f).testBit = (List.range n).filter f from List.filter_congr fun i hi => by rw [wd_bit,decide_eq_true (List.mem_range.1 hi)]; rfl]
 rw [show (List.range d).filter ((wd n f).testBit ∘ (n + ·)) = [] from List.filter_eq_nil_iff.2 fun i _ => by show ¬ (wd n f).testBit (n + i) = true; rw [wd_bit,decide_eq_false (by omega)]; simp]
 rfl
/- Masks,byte by byte. -/
theorem and_byte (a b x y:Nat) (ha:a < 256) (hb:b < 256):(a + 256 * x) &&& (b + 256 * y) = (a &&& b) + 256 * (x &&& y):=by
 have e:∀ c z,c < 256→∀ k,(c + 256 * z).testBit k = if k < 8 then c.testBit k else z.testBit (k - 8):=by
  intro c z hc k
  have:=Nat.testBit_two_pow_mul_add z (i:=8) hc k
  rw [show (2:Nat) ^ 8 = 256 from rfl,Nat.add_comm] at this
  exact this
 apply Nat.eq_of_testBit_eq
 intro k
 rw [Nat.testBit_and,e a x ha,e b y hb,e (a &&& b) (x &&& y) (Nat.lt_of_le_of_lt Nat.and_le_left ha)]
 split <;> rw [Nat.testBit_and]
def mask (b:Nat):Nat→Nat
 | 0 => 0
 | k + 1 => b + 256 * mask b k
def st1 (k x:Nat):Nat:=(x / 2 &&& mask 85 k) + (x &&& mask 85 k)
def st2 (k x:Nat):Nat:=(x / 4 &&& mask 51 k) + (x &&& mask 51 k)
def st3 (k x:Nat):Nat:=(x / 16 + x) &&& mask 15 k
def cbytes:Nat→Nat→Nat
 | 0,_ => 0
 | k + 1,x => bitsC (x % 256) 8 + 256 * cbytes k (x / 256)
def s1 (b:Nat):Nat:=(b / 2 &&& 85) + (b &&& 85)
def s2 (b:Nat):Nat:=(b / 4 &&& 51) + (b &&& 51)
theorem s1_lt:∀ b,b < 256→s1 b < 256:=by decide +kernel
theorem s2_lt:∀ b,b < 256→s2 (s1 b) < 256∧s2 (s1 b) % 16≤4∧s2 (s1 b) / 16≤4:=by decide +kernel
theorem s3_is:∀ b,b < 256→(s2 (s1 b) / 16 + s2 (s1 b)) % 16 = bitsC b 8:=by decide +kernel
theorem h85:∀ b,b < 256→∀ p,p < 2→(b / 2 + 128 * p) &&& 85 = b / 2 &&& 85:=by decide +kernel
theorem h51:∀ b,b < 256→∀ p,p < 4→(b / 4 + 64 * p) &&& 51 = b / 4 &&& 51:=by decide +kernel
theorem and15 (x:Nat):x &&& 15 = x % 16:=Nat.and_two_pow_sub_one_eq_mod x 4
theorem st1_step (k b y:Nat) (hb:b < 256):st1 (k + 1) (b + 256 * y) = s1 b + 256 * st1 k y:=by
 have e:(b + 256 * y) / 2 = (b / 2 + 128 * (y % 2)) + 256 * (y / 2):=by omega
 unfold st1
 show ((b + 256 * y) / 2 &&& (85 + 256 * mask 85 k)) + ((b + 256 * y) &&& (85 + 256 * mask 85 k)) = _
 rw [e,and_byte _ _ _ _ (by omega) (by omega),and_byte _ _ _ _ hb (by omega),h85 b hb _ (by omega)]
 unfold s1
 omega
theorem st2_step (k b y:Nat) (hb:b < 256):st2 (k + 1) (b + 256 * y) = s2 b + 256 * st2 k y:=by
 have e:(b + 256 * y) / 4 = (b / 4 + 64 * (y % 4)) + 256 * (y / 4):=by omega
 unfold st2
 show ((b + 256 * y) / 4 &&& (51 + 256 * mask 51 k)) + ((b + 256 * y) &&& (51 + 256 * mask 51 k)) = _
 rw [e,and_byte _ _ _ _ (by omega) (by omega),and_byte _ _ _ _ hb (by omega),h51 b hb _ (by omega)]
 unfold s2
 omega
theorem st12 (k:Nat):∀ x,x < 256 ^ k→st2 k (st1 k x) % 16≤4∧st3 k (st2 k (st1 k x)) = cbytes k x:=by
 induction k with
 | zero =>
  intro x hx
  have:x = 0:=by simpa using hx
  subst this
  exact ⟨by decide,rfl⟩
 | succ k ih =>
  intro x hx
  have hb:x % 256 < 256:=Nat.mod_lt _ (by omega)
  have hy:x / 256 < 256 ^ k:=by rw [Nat.pow_succ] at hx; omega
  obtain ⟨i1,i2⟩:=ih _ hy
  have ex:x = x % 256 + 256 * (x / 256):=by omega
  have e1:st1 (k + 1) x = s1 (x % 256) + 256 * st1 k (x / 256):=by
   conv => lhs; rw [ex]
   exact st1_step k _ _ hb
  have e2:st2 (k + 1) (st1 (k + 1) x) = s2 (s1 (x % 256)) + 256 * st2 k (st1 k (x / 256)):=by rw [e1]; exact st2_step k _ _ (s1_lt _ hb)
  have hs:=s2_lt _ hb
  have h3:=s3_is _ hb
  rw [e2]
  show _∧_ = bitsC (x % 256) 8 + 256 * cbytes k (x / 256)
  rw [← i2,← h3]
  generalize s2 (s1 (x % 256)) = c at hs ⊢
  unfold st3 at *
  generalize st2 k (st1 k (x / 256)) = z at i1 ⊢
  refine ⟨by omega,?_⟩
  have e3:(c + 256 * z) / 16 + (c + 256 * z) = (c / 16 + 16 * (z % 16) + c) + 256 * (z / 16 + z):=by omega
  rw [e3]
  show _ &&& (15 + 256 * mask 15 k) = _
  rw [and_byte _ _ _ _ (by omega) (by omega),and15]
  congr 1
  omega
theorem bitsC_le (x k:Nat):bitsC x k≤k:=by
 have:=List.length_filter_le x.testBit (List.range k)
 rwa [List.length_range] at this
theorem adds8 (a b c d e f g h x:Nat) (ha:a≤8) (hb:b≤8) (hc:c≤8) (hd:d≤8) (he:e≤8) (hf:f≤8) (hg:g≤8) (hh:h≤8) (hx:x = a + 256 * (b + 256 * (c + 256 * (d + 256 * (e + 256 * (f + 256 * (g + 256 * h)))))))
  (y z u:Nat) (hy:y = x + x / 256) (hz:z = y + y / 65536) (hu:u = z + z / 4294967296):y < 18446744073709551616∧z < 18446744073709551616∧u < 9223372036854775808∧u % 128 = a + b + c + d + e + f + g + h:=by
 have e1:y = (a + b) + 256 * ((b + c) + 256 * ((c + d) + 256 * ((d + e) + 256 * ((e + f) + 256 * ((f + g) + 256 * ((g + h) + 256 * h)))))):=by omega
 clear hy hx
 have e2:z = (a + b + c + d) + 256 * ((b + c + d + e) + 256 * ((c + d + e + f) + 256 * ((d + e + f + g) + 256 * ((e + f + g + h) + 256 * ((f + g + h) + 256 * ((g + h) + 256 * h)))))):=by omega
 have e3:y < 18446744073709551616:=by omega
 clear hz e1
 have e4:u = (a + b + c + d + e + f + g + h) + 256 * ((b + c + d + e + f + g + h) + 256 * ((c + d + e + f + g + h) + 256 * ((d + e + f + g + h) + 256 * ((e + f + g + h) + 256 * ((f + g + h) + 256 * ((g + h) + 256 * h)))))):=by omega
 omega
theorem ones_is (x:Nat) (hx:x < 18446744073709551616) (p q r y z u:Nat) (hp:p = st1 8 x) (hq:q = st2 8 p) (hr:r = st3 8 q) (hy:y = r + r / 256) (hz:z = y + y / 65536) (hu:u = z + z / 4294967296) :
  r < 18446744073709551616∧y < 18446744073709551616∧z < 18446744073709551616∧u < 9223372036854775808∧u % 128 = bitsC x 64:=by
 have h:=(st12 8 x hx).2
 rw [← hp,← hq,← hr] at h
 have e:bitsC x 64 = bitsC (x % 256) 8 + (bitsC (x / 256 % 256) 8 + (bitsC (x / 256 / 256 % 256) 8 + (bitsC (x / 256 / 256 / 256 % 256) 8 + (bitsC (x / 256 / 256 / 256 / 256 % 256) 8 + (bitsC (x / 256 / 256 / 256 / 256 / 256 % 256) 8 + (bitsC (x / 256 / 256 / 256 / 256 / 256 / 256 % 256) 8 + bitsC (x / 256 / 256 / 256 / 256 / 256 / 256 / 256 % 256) 8)))))):=by
  rw [show 64 = 8 + 56 from rfl,bitsC_split,show 56 = 8 + 48 from rfl,bitsC_split,show 48 = 8 + 40 from rfl,bitsC_split,show 40 = 8 + 32 from rfl,bitsC_split,show 32 = 8 + 24 from rfl,bitsC_split,show 24 = 8 + 16 from rfl,bitsC_split,show 16 = 8 + 8 from rfl,bitsC_split]
  rw [show bitsC (x / 256 / 256 / 256 / 256 / 256 / 256 / 256) 8 = bitsC (x / 256 / 256 / 256 / 256 / 256 / 256 / 256 % 256) 8 by rw [Nat.mod_eq_of_lt (show x / 256 / 256 / 256 / 256 / 256 / 256 / 256 < 256 by omega)]]
 simp only [cbytes] at h
 have l0:=bitsC_le (x % 256) 8
 have l1:=bitsC_le (x / 256 % 256) 8
 have l2:=bitsC_le (x / 256 / 256 % 256) 8
 have l3:=bitsC_le (x / 256 / 256 / 256 % 256) 8
 have l4:=bitsC_le (x / 256 / 256 / 256 / 256 % 256) 8
 have l5:=bitsC_le (x / 256 / 256 / 256 / 256 / 256 % 256) 8
 have l6:=bitsC_le (x / 256 / 256 / 256 / 256 / 256 / 256 % 256) 8
 have l7:=bitsC_le (x / 256 / 256 / 256 / 256 / 256 / 256 / 256 % 256) 8
 rw [e]
 generalize bitsC (x % 256) 8 = a at *
 generalize bitsC (x / 256 % 256) 8 = b at *
 generalize bitsC (x / 256 / 256 % 256) 8 = c at *
 generalize bitsC (x / 256 / 256 / 256 % 256) 8 = d at *
 generalize bitsC (x / 256 / 256 / 256 / 256 % 256) 8 = e' at *
 generalize bitsC (x / 256 / 256 / 256 / 256 / 256 % 256) 8 = f at *
 generalize bitsC (x / 256 / 256 / 256 / 256 / 256 / 256 % 256) 8 = g at *
 generalize bitsC (x / 256 / 256 / 256 / 256 / 256 / 256 / 256 % 256) 8 = k at *
 have:=adds8 a b c d e' f g k r l0 l1 l2 l3 l4 l5 l6 l7 (by omega) y z u hy hz hu
 refine ⟨by omega,this.1,this.2.1,this.2.2.1,by omega⟩
end Sp
end Go.Proofs.Ytojbncpifpghgaa
