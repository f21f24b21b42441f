/- Nothing old has turned: Kept, and its laws. Variables of many cells. Determinants: by the first row; linear in each column; the first pivot taken out. Turned over the diagonal; minors along a list of pivots; Bareiss' stages are exact (Sylvester). Cramer's rule; what solves the pivots' rows solves all, in whole numbers. Rows and columns in another order; pivots taken out one by one. What is linear and alternating is a multiple of the determinant; products; Hadamard's bound. Bareiss' stages as they are worked out: minors, exact divisions; one column more. The solution: there is one, it is the only one, what it solves. Patterns of a square matrix and what elimination does to them: the mathematics of layer 13. Which pivots are taken; what is told of a matrix; when it is singular; what can be wide. Rows as words: bits, and how many of them there are (math/bits.OnesCount64's arithmetic). Bounds: nothing is wide where the product of the rows' norms isn't; ranks. Ranks: a matrix and the one turned over its diagonal have as many pivots; determinants by fractions, row by row. -/
import Derived.Test.YtdcgdpbgnijnpaaGreatProg
import Derived.WalkKit
import Derived.WalkSpells
import Derived.WalkLawsBesides
import Derived.Deep.OwnRows
import Derived.Deep.QuietTactic
import Derived.BigQuiet
import Derived.Outline
import Derived.KernelRfl
namespace Go.Proofs.YtdcgdpbgnijnpaaGreat
open Go.RowKit
def Kept (w w':World):Prop:=Below w.heap.size w w'
theorem Kept.refl (w:World):Kept w w:=Below.refl _ _
theorem Kept.trans {a b c:World} (h:Kept a b) (k:Kept b c):Kept a c:=Below.trans h (Below.mono k h.size)
theorem Kept.drew {a b:World} (h:Kept a b):Kept a b.drew:=Below.drew h
theorem Kept.drewN {a b:World} (h:Kept a b) (n:Nat):Kept a (b.drewN n):=⟨h.os,h.tape,h.output,h.size,h.block⟩
theorem Kept.alloc {a b:World} (h:Kept a b) (o:Obj):Kept a (b.alloc o):=Below.alloc h h.size o
theorem Kept.setCell {a b:World} (h:Kept a b) {p:Addr} (hp:a.heap.size≤p.block) (u:Value):Kept a (b.setCell p u):=Below.setCell h hp u
end Go.Proofs.YtdcgdpbgnijnpaaGreat

namespace Go.Proofs.YtdcgdpbgnijnpaaGreat
open Go.RowKit
namespace V
def RowL (t:TypeId) (w:World) (p:Nat) (xs:List Value):Prop:=w.rowIs p t xs.length (fun i => xs.getD i undef)
theorem RowL.alloc (t:TypeId) (w:World) (xs:List Value):RowL t (w.alloc (.cells xs.toArray t)) w.heap.size xs:=by
 have:=World.rowIs_alloc w xs.toArray t (fun i => xs.getD i undef) (fun i hi => by
  have hi':i < xs.length:=by simpa using hi
  simp [hi'])
 simpa [RowL] using this
section
variable {t:TypeId} {w w':World} {p q:Nat} {xs:List Value}
theorem RowL.lt (h:RowL t w p xs):p < w.heap.size:=World.rowIs.lt h
theorem RowL.cell (h:RowL t w p xs) (i:Nat) (u:Value) (hi:xs[i]? = some u:=by rfl):w.cell? ⟨p,i,none⟩ = some u:=by
 have hl:=(List.getElem?_eq_some_iff.1 hi).1
 have:=World.rowIs.cell h (i:=i) hl
 rw [this]
 show some (xs.getD i undef) = some u
 rw [List.getD_eq_getElem?_getD,hi]
 rfl
theorem RowL.fz (h:RowL t w p xs) (i:Nat):w.frozen? ⟨p,i,none⟩ = false:=World.rowIs.frozen h i
theorem RowL.kept (h:RowL t w p xs) (k:Kept w w'):RowL t w' p xs:=World.rowIs.of_block h (k.block p h.lt)
theorem RowL.block (h:RowL t w p xs) (k:w'.heap[p]? = w.heap[p]?):RowL t w' p xs:=World.rowIs.of_block h k
theorem RowL.set (h:RowL t w p xs) (i:Nat) (v:Value):RowL t (w.setCell ⟨p,i,none⟩ v) p (xs.set i v):=by
 have:=World.rowIs.set h i v
 unfold RowL
 rw [List.length_set]
 refine this.congr (fun j hj => ?_)
 show (if j = i then v else xs.getD j undef) = (xs.set i v).getD j undef
 by_cases e:j = i
 ·
  subst e
  rw [if_pos rfl,List.getD_eq_getElem?_getD,List.getElem?_set_self hj]
  rfl
 ·
  rw [if_neg e,List.getD_eq_getElem?_getD,List.getD_eq_getElem?_getD,List.getElem?_set_ne (fun h => e h.symm)]
theorem RowL.far (h:RowL t w p xs) (hne:p ≠ q) (i:Nat) (v:Value):RowL t (w.setCell ⟨q,i,none⟩ v) p xs:=World.rowIs.setOther h hne v
end
end V
end Go.Proofs.YtdcgdpbgnijnpaaGreat

namespace Go.Proofs.YtdcgdpbgnijnpaaGreat
namespace Ba
def sm:Nat→(Nat→Rat)→Rat
 | 0,_ => 0
 | n + 1,f => sm n f + f n
theorem sm_congr {n:Nat} {f g:Nat→Rat} (h:∀ k,k < n→f k = g k):sm n f = sm n g:=by
 induction n with
 | zero => rfl
 | succ n ih =>
  show sm n f + f n = sm n g + g n
  rw [ih fun k hk => h k (by omega),h n (by omega)]
theorem sm_zero {n:Nat} {f:Nat→Rat} (h:∀ k,k < n→f k = 0):sm n f = 0:=by
 induction n with
 | zero => rfl
 | succ n ih =>
  show sm n f + f n = 0
  rw [ih fun k hk => h k (by omega),h n (by omega)]
  grind
theorem sm_lin (n:Nat) (x y:Rat) (f g:Nat→Rat):sm n (fun k => x * f k + y * g k) = x * sm n f + y * sm n g:=by
 induction n with
 | zero => show (0:Rat) = x * 0 + y * 0; grind
 | succ n ih =>
  show sm n (fun k => x * f k + y * g k) + (x * f n + y * g n) = x * (sm n f + f n) + y * (sm n g + g n)
  rw [ih]; grind
theorem sm_mul (n:Nat) (x:Rat) (f:Nat→Rat):sm n (fun k => x * f k) = x * sm n f:=by
 induction n with
 | zero => show (0:Rat) = x * 0; grind
 | succ n ih =>
  show sm n (fun k => x * f k) + x * f n = x * (sm n f + f n)
  rw [ih]; grind
theorem sm_add (n:Nat) (f g:Nat→Rat):sm n (fun k => f k + g k) = sm n f + sm n g:=by
 induction n with
 | zero => show (0:Rat) = 0 + 0; grind
 | succ n ih =>
  show sm n (fun k => f k + g k) + (f n + g n) = (sm n f + f n) + (sm n g + g n)
  rw [ih]; grind
theorem sm_swap (n m:Nat) (f:Nat→Nat→Rat):sm n (fun i => sm m (f i)) = sm m (fun j => sm n (fun i => f i j)):=by
 induction n with
 | zero => exact (sm_zero fun _ _ => rfl).symm
 | succ n ih =>
  show sm n (fun i => sm m (f i)) + sm m (f n) = sm m (fun j => sm n (fun i => f i j) + f n j)
  rw [ih,sm_add]
theorem sm_one {n j:Nat} {f:Nat→Rat} (hj:j < n) (h:∀ k,k < n→k ≠ j→f k = 0):sm n f = f j:=by
 induction n with
 | zero => omega
 | succ n ih =>
  show sm n f + f n = f j
  by_cases e:j = n
  ·
   subst e
   rw [sm_zero fun k hk => h k (by omega) (by omega)]; grind
  ·
   rw [ih (by omega) fun k hk hne => h k (by omega) hne,h n (by omega) (by omega)]; grind
theorem sm_two {n i j:Nat} {f:Nat→Rat} (hij:i < j) (hj:j < n) (h:∀ k,k < n→k ≠ i→k ≠ j→f k = 0):sm n f = f i + f j:=by
 induction n with
 | zero => omega
 | succ n ih =>
  show sm n f + f n = f i + f j
  by_cases e:j = n
  ·
   subst e
   rw [sm_one (j:=i) hij fun k hk hne => h k (by omega) hne (by omega)]
  ·
   rw [ih (by omega) fun k hk h1 h2 => h k (by omega) h1 h2,h n (by omega) (by omega) (by omega)]; grind
theorem sm_head (n:Nat) (f:Nat→Rat):sm (n + 1) f = f 0 + sm n (fun k => f (k + 1)):=by
 induction n with
 | zero => show (0:Rat) + f 0 = f 0 + 0; grind
 | succ n ih =>
  show sm (n + 1) f + f (n + 1) = f 0 + (sm n (fun k => f (k + 1)) + f (n + 1))
  rw [ih]; grind
def sg (j:Nat):Rat:=if j % 2 = 0 then 1 else -1
theorem sg_succ (j:Nat):sg (j + 1) = -sg j:=by
 unfold sg
 by_cases h:j % 2 = 0
 ·
  rw [if_pos h,if_neg (by omega)]
 ·
  rw [if_neg h,if_pos (by omega)]; grind
def sk (j k:Nat):Nat:=if k < j then k else k + 1
theorem sk_ne (j k:Nat):sk j k ≠ j:=by unfold sk; split <;> omega
theorem sk_lt {j k n:Nat} (hk:k < n):sk j k < n + 1:=by unfold sk; split <;> omega
def at_ (k j:Nat):Nat:=if j < k then j else j - 1
theorem sk_at {j k l:Nat} (h:j ≠ k):sk k l = j ↔ l = at_ k j:=by
 unfold sk at_
 split <;> split <;> omega
theorem at_lt {j k n:Nat} (h:j ≠ k) (hj:j < n + 1) (hk:k < n + 1):at_ k j < n:=by unfold at_; split <;> omega
def det:Nat→(Nat→Nat→Rat)→Rat
 | 0,_ => 1
 | n + 1,A => sm (n + 1) fun j => sg j * A 0 j * det n (fun i k => A (i + 1) (sk j k))
theorem det_succ (n:Nat) (A:Nat→Nat→Rat):det (n + 1) A = sm (n + 1) fun j => sg j * A 0 j * det n (fun i k => A (i + 1) (sk j k)):=rfl
theorem det_congr {n:Nat}:∀ {A B:Nat→Nat→Rat},(∀ i j,i < n→j < n→A i j = B i j)→det n A = det n B:=by
 induction n with
 | zero => intro A B _; rfl
 | succ n ih =>
  intro A B h
  rw [det_succ,det_succ]
  refine sm_congr fun j hj => ?_
  rw [h 0 j (by omega) hj,ih fun i k hi hk => h (i + 1) (sk j k) (by omega) (sk_lt hk)]
def upd (A:Nat→Nat→Rat) (j:Nat) (u:Nat→Rat):Nat→Nat→Rat:=fun i k => if k = j then u i else A i k
theorem upd_minor {A:Nat→Nat→Rat} {j k:Nat} {u:Nat→Rat} (h:j ≠ k):(fun i l => upd A j u (i + 1) (sk k l)) = upd (fun i l => A (i + 1) (sk k l)) (at_ k j) (fun i => u (i + 1)):=by
 funext i l
 unfold upd
 by_cases e:sk k l = j
 ·
  rw [if_pos e,if_pos ((sk_at h).1 e)]
 ·
  rw [if_neg e,if_neg fun e' => e ((sk_at h).2 e')]
theorem upd_minor_same {A:Nat→Nat→Rat} {j:Nat} {u:Nat→Rat}:(fun i l => upd A j u (i + 1) (sk j l)) = fun i l => A (i + 1) (sk j l):=by
 funext i l
 unfold upd
 rw [if_neg (sk_ne j l)]
theorem det_lin {n:Nat}:∀ {A:Nat→Nat→Rat} {j:Nat} {x y:Rat} {u v:Nat→Rat},j < n→det n (upd A j (fun i => x * u i + y * v i)) = x * det n (upd A j u) + y * det n (upd A j v):=by
 induction n with
 | zero => intro A j x y u v h; omega
 | succ n ih =>
  intro A j x y u v hj
  rw [det_succ,det_succ,det_succ,← sm_lin]
  refine sm_congr fun k hk => ?_
  by_cases e:j = k
  ·
   subst e
   rw [upd_minor_same,upd_minor_same,upd_minor_same]
   simp only [upd,if_pos]
   grind
  ·
   rw [upd_minor e,upd_minor e,upd_minor e,ih (at_lt e hj hk)]
   simp only [upd,if_neg (fun h => e h.symm:¬ k = j)]
   grind
theorem upd_self (A:Nat→Nat→Rat) (j:Nat):upd A j (fun i => A i j) = A:=by
 funext i k
 unfold upd
 split
 ·
  next h => rw [h]
 ·
  rfl
theorem det_adj {n:Nat}:∀ {A:Nat→Nat→Rat} {j:Nat},j + 1 < n→(∀ i,i < n→A i j = A i (j + 1))→det n A = 0:=by
 induction n with
 | zero => intro A j h; omega
 | succ n ih =>
  intro A j hj h
  rw [det_succ]
  rw [sm_two (i:=j) (j:=j + 1) (by omega) hj]
  ·
   rw [sg_succ,h 0 (by omega)]
   have:det n (fun i k => A (i + 1) (sk j k)) = det n (fun i k => A (i + 1) (sk (j + 1) k)):=det_congr fun i k hi hk => by
    show A (i + 1) (sk j k) = A (i + 1) (sk (j + 1) k)
    unfold sk
    by_cases e:k = j
    ·
     subst e
     rw [if_neg (by omega),if_pos (by omega),h (i + 1) (by omega)]
    ·
     by_cases e2:k < j
     ·
      rw [if_pos e2,if_pos (by omega)]
     ·
      rw [if_neg e2,if_neg (by omega)]
   rw [this]
   grind
  ·
   intro k hk h1 h2
   have:det n (fun i l => A (i + 1) (sk k l)) = 0:=by
    by_cases e:k < j
    ·
     refine ih (j:=j - 1) (by omega) fun i hi => ?_
     show A (i + 1) (sk k (j - 1)) = A (i + 1) (sk k (j - 1 + 1))
     unfold sk
     rw [if_neg (by omega),if_neg (by omega),show j - 1 + 1 = j by omega]
     exact h (i + 1) (by omega)
    ·
     refine ih (j:=j) (by omega) fun i hi => ?_
     show A (i + 1) (sk k j) = A (i + 1) (sk k (j + 1))
     unfold sk
     rw [if_pos (by omega),if_pos (by omega)]
     exact h (i + 1) (by omega)
   rw [this]
   grind
theorem upd_comm {A:Nat→Nat→Rat} {j k:Nat} {u v:Nat→Rat} (h:j ≠ k):upd (upd A j u) k v = upd (upd A k v) j u:=by
 funext i l
 unfold upd
 by_cases e:l = k
 ·
  rw [if_pos e,if_neg (by omega),if_pos e]
 ·
  rw [if_neg e]
  by_cases e2:l = j
  ·
   rw [if_pos e2,if_pos e2]
  ·
   rw [if_neg e2,if_neg e2,if_neg e]
theorem det_add {n:Nat} {A:Nat→Nat→Rat} {j:Nat} {u v:Nat→Rat} (hj:j < n):det n (upd A j (fun i => u i + v i)) = det n (upd A j u) + det n (upd A j v):=by
 have h:=det_lin (A:=A) (x:=1) (y:=1) (u:=u) (v:=v) hj
 rw [show (fun i => (1:Rat) * u i + 1 * v i) = fun i => u i + v i from funext fun i => by grind] at h
 rw [h]; grind
theorem det_swap {n:Nat} {A:Nat→Nat→Rat} {j:Nat} (u v:Nat→Rat) (hj:j + 1 < n):det n (upd (upd A j u) (j + 1) v) = -det n (upd (upd A j v) (j + 1) u):=by
 have h0:∀ x:Nat→Rat,det n (upd (upd A j x) (j + 1) x) = 0:=fun x => det_adj (j:=j) hj fun i _ => by
  unfold upd
  rw [if_neg (by omega),if_pos rfl,if_pos rfl]
 have f1:∀ x y z:Nat→Rat,det n (upd (upd A j (fun i => x i + y i)) (j + 1) z) = det n (upd (upd A j x) (j + 1) z) + det n (upd (upd A j y) (j + 1) z):=fun x y z => by
  rw [upd_comm (by omega),upd_comm (by omega) (u:=x),upd_comm (by omega) (u:=y)]
  exact det_add (by omega)
 have f2:∀ x y z:Nat→Rat,det n (upd (upd A j z) (j + 1) (fun i => x i + y i)) = det n (upd (upd A j z) (j + 1) x) + det n (upd (upd A j z) (j + 1) y):=fun x y z => det_add hj
 have h1:=h0 (fun i => u i + v i)
 rw [f1,f2,f2,h0,h0] at h1
 grind
theorem det_alike {n:Nat}:∀ (d p:Nat) {A:Nat→Nat→Rat},p + 1 + d < n→(∀ i,i < n→A i p = A i (p + 1 + d))→det n A = 0:=by
 intro d
 induction d with
 | zero => intro p A hq h; exact det_adj hq h
 | succ d ih =>
  intro p A hq h
  have e:A = upd (upd A (p + 1 + d) (fun i => A i (p + 1 + d))) (p + 1 + d + 1) (fun i => A i (p + 1 + d + 1)):=by rw [upd_self,upd_self]
  rw [e,det_swap _ _ (by omega)]
  rw [ih p (A:=upd (upd A (p + 1 + d) (fun i => A i (p + 1 + d + 1))) (p + 1 + d + 1) (fun i => A i (p + 1 + d))) (by omega) fun i hi => ?_]
  ·
   grind
  ·
   unfold upd
   rw [if_neg (by omega),if_neg (by omega),if_neg (by omega),if_pos rfl]
   exact h i hi
theorem det_same {n p q:Nat} {A:Nat→Nat→Rat} (hp:p < n) (hq:q < n) (hpq:p ≠ q) (h:∀ i,i < n→A i p = A i q):det n A = 0:=by
 rcases Nat.lt_or_ge p q with h1 | h1
 ·
  exact det_alike (q - p - 1) p (by omega) fun i hi => by rw [show p + 1 + (q - p - 1) = q by omega]; exact h i hi
 ·
  exact det_alike (p - q - 1) q (by omega) fun i hi => by rw [show q + 1 + (p - q - 1) = p by omega]; exact (h i hi).symm
theorem det_more {n j k:Nat} {A:Nat→Nat→Rat} (t:Rat) (hj:j < n) (hk:k < n) (hjk:j ≠ k):det n (upd A j (fun i => A i j + t * A i k)) = det n A:=by
 have h:=det_lin (A:=A) (x:=1) (y:=t) (u:=fun i => A i j) (v:=fun i => A i k) hj
 rw [upd_self,det_same hj hk hjk (A:=upd A j (fun i => A i k)) fun i _ => by unfold upd; rw [if_pos rfl,if_neg (fun e => hjk e.symm)]] at h
 rw [show (fun i => A i j + t * A i k) = fun i => 1 * A i j + t * A i k from funext fun i => by grind,h]
 grind
def clr (A:Nat→Nat→Rat) (m:Nat):Nat→Nat→Rat:=fun i k => if 1≤k∧k≤m then A i k - A 0 k / A 0 0 * A i 0 else A i k
theorem det_clr {n:Nat} {A:Nat→Nat→Rat}:∀ m,m < n→det n (clr A m) = det n A:=by
 intro m
 induction m with
 | zero => intro _; refine det_congr fun i k _ _ => ?_; unfold clr; rw [if_neg (by omega)]
 | succ m ih =>
  intro hm
  rw [← ih (by omega),← det_more (A:=clr A m) (j:=m + 1) (k:=0) (-(A 0 (m + 1) / A 0 0)) hm (by omega) (by omega)]
  refine det_congr fun i k _ _ => ?_
  unfold upd clr
  by_cases e:k = m + 1
  ·
   rw [if_pos (by omega),if_pos e]
   dsimp only
   rw [if_neg (by omega),if_neg (by omega),e]
   grind
  ·
   rw [if_neg e]
   by_cases e2:1≤k∧k≤m
   ·
    rw [if_pos (by omega),if_pos e2]
   ·
    rw [if_neg (by omega),if_neg e2]
theorem det_step {n:Nat} {A:Nat→Nat→Rat} (h:A 0 0 ≠ 0):det (n + 1) A = A 0 0 * det n (fun i j => A (i + 1) (j + 1) - A (i + 1) 0 * A 0 (j + 1) / A 0 0):=by
 rw [← det_clr n (by omega),det_succ,sm_one (j:=0) (by omega)]
 ·
  have e:clr A n 0 0 = A 0 0:=by unfold clr; rw [if_neg (by omega)]
  rw [e]
  show (1:Rat) * A 0 0 * _ = _
  rw [det_congr (A:=fun i k => clr A n (i + 1) (sk 0 k)) (B:=fun i j => A (i + 1) (j + 1) - A (i + 1) 0 * A 0 (j + 1) / A 0 0) fun i j _ hj => ?_]
  ·
   grind
  ·
   show clr A n (i + 1) (j + 1) = _
   unfold clr
   rw [if_pos (by omega)]
   grind
 ·
  intro k hk h0
  have e:clr A n 0 k = 0:=by unfold clr; rw [if_pos (by omega)]; grind
  rw [e]
  grind
theorem det_int {n:Nat}:∀ {A:Nat→Nat→Rat},(∀ i j,∃ z:Int,A i j = (z:Rat))→∃ z:Int,det n A = (z:Rat):=by
 have hsm:∀ (m:Nat) (f:Nat→Rat),(∀ k,∃ z:Int,f k = (z:Rat))→∃ z:Int,sm m f = (z:Rat):=by
  intro m
  induction m with
  | zero => intro f _; exact ⟨0,rfl⟩
  | succ m ih =>
   intro f h
   obtain ⟨a,ha⟩:=ih f h
   obtain ⟨b,hb⟩:=h m
   refine ⟨a + b,?_⟩
   show sm m f + f m = _
   rw [ha,hb,Rat.intCast_add]
 induction n with
 | zero => intro A _; exact ⟨1,rfl⟩
 | succ n ih =>
  intro A h
  rw [det_succ]
  refine hsm _ _ fun k => ?_
  obtain ⟨a,ha⟩:=h 0 k
  obtain ⟨b,hb⟩:=ih (A:=fun i l => A (i + 1) (sk k l)) fun i l => h _ _
  rw [ha,hb]
  unfold sg
  split
  ·
   exact ⟨a * b,by rw [Rat.intCast_mul]; grind⟩
  ·
   exact ⟨-(a * b),by rw [Rat.intCast_neg,Rat.intCast_mul]; grind⟩
end Ba
end Go.Proofs.YtdcgdpbgnijnpaaGreat

namespace Go.Proofs.YtdcgdpbgnijnpaaGreat
namespace Ba
/- Turned over its diagonal. -/
def tp (A:Nat→Nat→Rat):Nat→Nat→Rat:=fun i j => A j i
theorem det_col (n:Nat):∀ (A:Nat→Nat→Rat),det (n + 1) A = sm (n + 1) fun i => sg i * A i 0 * det n (fun a b => A (sk i a) (b + 1)):=by
 induction n with
 | zero => intro A; rfl
 | succ n ih =>
  intro A
  rw [det_succ,sm_head,sm_head (n + 1) (fun i => sg i * A i 0 * det (n + 1) (fun a b => A (sk i a) (b + 1)))]
  congr 1
  have h1:∀ j,sg (j + 1) * A 0 (j + 1) * det (n + 1) (fun i k => A (i + 1) (sk (j + 1) k)) = sm (n + 1) fun i => sg (j + 1) * A 0 (j + 1) * (sg i * A (i + 1) 0 * det n (fun a b => A (sk i a + 1) (sk (j + 1) (b + 1)))):=by
   intro j
   rw [ih,← sm_mul]
   refine sm_congr fun i _ => ?_
   rw [show sk (j + 1) 0 = 0 by unfold sk; rw [if_pos (by omega)]]
  have h2:∀ i,sg (i + 1) * A (i + 1) 0 * det (n + 1) (fun a b => A (sk (i + 1) a) (b + 1)) = sm (n + 1) fun j => sg (i + 1) * A (i + 1) 0 * (sg j * A 0 (j + 1) * det n (fun a b => A (sk (i + 1) (a + 1)) (sk j b + 1))):=by
   intro i
   rw [det_succ,← sm_mul]
   refine sm_congr fun j _ => ?_
   rw [show sk (i + 1) 0 = 0 by unfold sk; rw [if_pos (by omega)]]
  rw [sm_congr (g:=fun j => sm (n + 1) fun i => sg (j + 1) * A 0 (j + 1) * (sg i * A (i + 1) 0 * det n (fun a b => A (sk i a + 1) (sk (j + 1) (b + 1))))) fun j _ => h1 j]
  rw [sm_congr (f:=fun i => sg (i + 1) * A (i + 1) 0 * det (n + 1) (fun a b => A (sk (i + 1) a) (b + 1))) (g:=fun i => sm (n + 1) fun j => sg (i + 1) * A (i + 1) 0 * (sg j * A 0 (j + 1) * det n (fun a b => A (sk (i + 1) (a + 1)) (sk j b + 1)))) fun i _ => h2 i]
  rw [sm_swap]
  refine sm_congr fun i _ => sm_congr fun j _ => ?_
  have e:det n (fun a b => A (sk i a + 1) (sk (j + 1) (b + 1))) = det n (fun a b => A (sk (i + 1) (a + 1)) (sk j b + 1)):=det_congr fun a b _ _ => by
   have e1:sk (i + 1) (a + 1) = sk i a + 1:=by unfold sk; split <;> split <;> omega
   have e2:sk (j + 1) (b + 1) = sk j b + 1:=by unfold sk; split <;> split <;> omega
   rw [e1,e2]
  rw [e,sg_succ,sg_succ]
  grind
theorem det_tp (n:Nat):∀ (A:Nat→Nat→Rat),det n (tp A) = det n A:=by
 induction n with
 | zero => intro A; rfl
 | succ n ih =>
  intro A
  rw [det_succ,det_col]
  refine sm_congr fun j _ => ?_
  rw [show (fun i k => tp A (i + 1) (sk j k)) = tp (fun a b => A (sk j a) (b + 1)) from rfl,ih]
  rfl
/- Minors along a list of pivots. -/
def gs (M:Nat→Nat→Rat) (r c:Nat):Nat→Nat→Rat:=fun i j => M i j - M i c * M r j / M r c
def rowOf:List (Nat × Nat)→Nat→Nat→Nat
 | [],i,_ => i
 | p :: _,_,0 => p.1
 | _ :: t,i,a + 1 => rowOf t i a
def colOf:List (Nat × Nat)→Nat→Nat→Nat
 | [],i,_ => i
 | p :: _,_,0 => p.2
 | _ :: t,i,a + 1 => colOf t i a
def minor (M:Nat→Nat→Rat) (ps:List (Nat × Nat)) (i j:Nat):Rat:=det (ps.length + 1) (fun a b => M (rowOf ps i a) (colOf ps j b))
def gauss (M:Nat→Nat→Rat):List (Nat × Nat)→Nat→Nat→Rat
 | [] => M
 | p :: t => gauss (gs M p.1 p.2) t
def prodP (M:Nat→Nat→Rat):List (Nat × Nat)→Rat
 | [] => 1
 | p :: t => M p.1 p.2 * prodP (gs M p.1 p.2) t
def pivOk (M:Nat→Nat→Rat):List (Nat × Nat)→Prop
 | [] => True
 | p :: t => M p.1 p.2 ≠ 0∧pivOk (gs M p.1 p.2) t
theorem minor_gauss (ps:List (Nat × Nat)):∀ {M:Nat→Nat→Rat} (i j:Nat),pivOk M ps→minor M ps i j = prodP M ps * gauss M ps i j:=by
 induction ps with
 | nil =>
  intro M i j _
  show sm 1 (fun b => sg b * M i j * 1) = 1 * M i j
  show (0:Rat) + (1:Rat) * M i j * 1 = 1 * M i j
  grind
 | cons p t ih =>
  intro M i j h
  unfold minor
  show det (t.length + 1 + 1) _ = _
  rw [det_step (by exact h.1)]
  show M p.1 p.2 * minor (gs M p.1 p.2) t i j = _
  rw [ih i j h.2]
  show _ = M p.1 p.2 * prodP (gs M p.1 p.2) t * gauss (gs M p.1 p.2) t i j
  grind
theorem gauss_snoc (ps:List (Nat × Nat)) (r c:Nat):∀ (M:Nat→Nat→Rat),gauss M (ps ++ [(r,c)]) = gs (gauss M ps) r c:=by
 induction ps with
 | nil => intro M; rfl
 | cons p t ih => intro M; exact ih _
theorem prodP_snoc (ps:List (Nat × Nat)) (r c:Nat):∀ (M:Nat→Nat→Rat),prodP M (ps ++ [(r,c)]) = prodP M ps * gauss M ps r c:=by
 induction ps with
 | nil => intro M; show M r c * 1 = 1 * M r c; grind
 | cons p t ih =>
  intro M
  show M p.1 p.2 * prodP (gs M p.1 p.2) (t ++ [(r,c)]) = M p.1 p.2 * prodP (gs M p.1 p.2) t * gauss (gs M p.1 p.2) t r c
  rw [ih]
  grind
theorem pivOk_snoc (ps:List (Nat × Nat)) (r c:Nat):∀ (M:Nat→Nat→Rat),pivOk M (ps ++ [(r,c)]) ↔ pivOk M ps∧gauss M ps r c ≠ 0:=by
 induction ps with
 | nil => intro M; show (M r c ≠ 0∧True) ↔ (True∧M r c ≠ 0); simp
 | cons p t ih =>
  intro M
  show (M p.1 p.2 ≠ 0∧pivOk (gs M p.1 p.2) (t ++ [(r,c)])) ↔ ((M p.1 p.2 ≠ 0∧pivOk (gs M p.1 p.2) t)∧gauss (gs M p.1 p.2) t r c ≠ 0)
  rw [ih,and_assoc]
theorem prodP_ne (ps:List (Nat × Nat)):∀ {M:Nat→Nat→Rat},pivOk M ps→prodP M ps ≠ 0:=by
 induction ps with
 | nil => intro M _ h; exact absurd (show (1:Rat) = 0 from h) (by decide)
 | cons p t ih =>
  intro M h h0
  have h1:=ih h.2
  have h2:=h.1
  have h0:M p.1 p.2 * prodP (gs M p.1 p.2) t = 0:=h0
  rcases Rat.mul_eq_zero.1 h0 with e | e
  ·
   exact h2 e
  ·
   exact h1 e
/- Whole numbers. -/
def cast (M:Nat→Nat→Int):Nat→Nat→Rat:=fun i j => (M i j:Rat)
def bstep (m:Nat→Nat→Int) (q:Int) (r c:Nat):Nat→Nat→Int:=fun i j => (m r c * m i j - m i c * m r j) / q
structure BarI (M:Nat→Nat→Int) (ps:List (Nat × Nat)) (m:Nat→Nat→Int) (q:Int) (left:Nat→Prop):Prop where
 ok:pivOk (cast M) ps
 num:∀ i j,left i→(m i j:Rat) = minor (cast M) ps i j
 piv:(q:Rat) = prodP (cast M) ps
theorem minor_int (M:Nat→Nat→Int) (ps:List (Nat × Nat)) (i j:Nat):∃ z:Int,minor (cast M) ps i j = (z:Rat):=det_int fun _ _ => ⟨M _ _,rfl⟩
theorem BarI.start (M:Nat→Nat→Int) (left:Nat→Prop):BarI M [] M 1 left:=⟨trivial,fun i j _ => by
 rw [minor_gauss [] i j trivial]
 show (M i j:Rat) = 1 * (M i j:Rat)
 grind,rfl⟩
theorem BarI.exact {M m:Nat→Nat→Int} {ps:List (Nat × Nat)} {q:Int} {left:Nat→Prop} (h:BarI M ps m q left) {r c i j:Nat} (hr:left r) (hi:left i) (hp:m r c ≠ 0):∃ z:Int,m r c * m i j - m i c * m r j = q * z∧(z:Rat) = minor (cast M) (ps ++ [(r,c)]) i j:=by
 have hq:=prodP_ne ps h.ok
 have e1:=(h.num r c hr).trans (minor_gauss ps r c h.ok)
 have e2:=(h.num i j hi).trans (minor_gauss ps i j h.ok)
 have e3:=(h.num i c hi).trans (minor_gauss ps i c h.ok)
 have e4:=(h.num r j hr).trans (minor_gauss ps r j h.ok)
 have hg:gauss (cast M) ps r c ≠ 0:=by
  intro e
  rw [e] at e1
  have:(m r c:Rat) = ((0:Int):Rat):=by rw [e1]; grind
  exact hp (Rat.intCast_inj.1 this)
 have hok:=(pivOk_snoc ps r c (cast M)).2 ⟨h.ok,hg⟩
 obtain ⟨z,hz⟩:=minor_int M (ps ++ [(r,c)]) i j
 refine ⟨z,?_,hz.symm⟩
 rw [minor_gauss _ i j hok,gauss_snoc,prodP_snoc] at hz
 apply Rat.intCast_inj.1
 rw [Rat.intCast_sub,Rat.intCast_mul,Rat.intCast_mul,Rat.intCast_mul,h.piv,← hz,e1,e2,e3,e4]
 unfold gs
 grind
theorem BarI.next {M m:Nat→Nat→Int} {ps:List (Nat × Nat)} {q:Int} {left:Nat→Prop} (h:BarI M ps m q left) {r c:Nat} (hr:left r) (hp:m r c ≠ 0) {left':Nat→Prop} (hl:∀ i,left' i→left i) {m':Nat→Nat→Int} (hm:∀ i j,left' i→m' i j = bstep m q r c i j):BarI M (ps ++ [(r,c)]) m' (m r c) left':=by
 have hq:q ≠ 0:=fun e => prodP_ne ps h.ok (by rw [← h.piv,e]; rfl)
 have e1:=(h.num r c hr).trans (minor_gauss ps r c h.ok)
 refine ⟨(pivOk_snoc ps r c (cast M)).2 ⟨h.ok,fun e => ?_⟩,fun i j hi => ?_,by rw [prodP_snoc,e1]⟩
 ·
  rw [e] at e1
  have:(m r c:Rat) = ((0:Int):Rat):=by rw [e1]; grind
  exact hp (Rat.intCast_inj.1 this)
 ·
  obtain ⟨z,h1,h2⟩:=h.exact (j:=j) hr (hl i hi) hp
  rw [hm i j hi,← h2]
  unfold bstep
  rw [h1,Int.mul_ediv_cancel_left _ hq]
end Ba
end Go.Proofs.YtdcgdpbgnijnpaaGreat

namespace Go.Proofs.YtdcgdpbgnijnpaaGreat
namespace Ba
/- Cramer's rule. -/
theorem det_zero_col {n:Nat} {A:Nat→Nat→Rat} {j:Nat} (hj:j < n):det n (upd A j (fun _ => 0)) = 0:=by
  have h:=det_lin (A:=A) (x:=0) (y:=0) (u:=fun _ => 0) (v:=fun _ => 0) hj
  rw [show (fun i:Nat => (0:Rat) * (fun _:Nat => (0:Rat)) i + 0 * (fun _:Nat => (0:Rat)) i) = fun _ => 0 from funext fun _ => by grind] at h
  rw [h]; grind
theorem det_sum {n j:Nat} {A:Nat→Nat→Rat} (hj:j < n) (m:Nat) (x:Nat→Rat) (v:Nat→Nat→Rat):det n (upd A j (fun i => sm m (fun k => x k * v k i))) = sm m (fun k => x k * det n (upd A j (v k))):=by
  induction m with
  | zero => exact det_zero_col hj
  | succ m ih =>
    show det n (upd A j (fun i => sm m (fun k => x k * v k i) + x m * v m i)) = sm m (fun k => x k * det n (upd A j (v k))) + x m * det n (upd A j (v m))
    have h:=det_lin (A:=A) (x:=1) (y:=x m) (u:=fun i => sm m (fun k => x k * v k i)) (v:=v m) hj
    rw [show (fun i => (1:Rat) * sm m (fun k => x k * v k i) + x m * v m i) = fun i => sm m (fun k => x k * v k i) + x m * v m i from funext fun i => by grind] at h
    rw [h,ih]; grind
theorem cramer {n j:Nat} {A:Nat→Nat→Rat} {x y:Nat→Rat} (hj:j < n) (h:∀ i,i < n→sm n (fun k => A i k * x k) = y i):det n (upd A j y) = x j * det n A:=by
  have e:det n (upd A j y) = det n (upd A j (fun i => sm n (fun k => x k * (fun k i => A i k) k i))):=det_congr fun i k hi _ => by
    unfold upd
    split
    · rw [← h i hi]; exact sm_congr fun k _ => by grind
    · rfl
  rw [e,det_sum hj,sm_one hj fun k hk hne => ?_]
  · show x j * det n (upd A j (fun i => A i j)) = _
    rw [upd_self]
  · show x k * det n (upd A j (fun i => A i k)) = 0
    rw [det_same hj hk (fun e => hne e.symm) (A:=upd A j (fun i => A i k)) fun i _ => by unfold upd; rw [if_pos rfl,if_neg hne]]
    grind
/- What solves the pivots' rows solves all of them. -/
def rsum (M:Nat→Nat→Rat) (X:Nat→Rat) (i:Nat):List Nat→Rat
  | [] => 0
  | c :: t => M i c * X c + rsum M X i t
theorem rsum_gs (M:Nat→Nat→Rat) (X:Nat→Rat) (r c i:Nat) (l:List Nat):rsum (gs M r c) X i l = rsum M X i l - M i c / M r c * rsum M X r l:=by
  induction l with
  | nil => show (0:Rat) = 0 - _ * 0; grind
  | cons a t ih =>
    show (M i a - M i c * M r a / M r c) * X a + rsum (gs M r c) X i t = (M i a * X a + rsum M X i t) - M i c / M r c * (M r a * X a + rsum M X r t)
    rw [ih]; grind
def solved (M:Nat→Nat→Rat) (X:Nat→Rat) (D:Rat) (b:Nat) (l:List Nat):List (Nat × Nat)→Prop
  | [] => True
  | p :: t => rsum M X p.1 l = D * M p.1 b∧solved (gs M p.1 p.2) X D b l t
theorem solved_rows (X:Nat→Rat) (D:Rat) (b:Nat) (l:List Nat) (ps:List (Nat × Nat)):∀ {M:Nat→Nat→Rat},solved M X D b l ps→∀ p ∈ ps,rsum M X p.1 l = D * M p.1 b:=by
  induction ps with
  | nil => intro M _ p hp; cases hp
  | cons q t ih =>
    intro M h p hp
    rcases List.mem_cons.1 hp with rfl | hp
    · exact h.1
    · have h1:=ih h.2 p hp
      rw [rsum_gs,h.1] at h1
      unfold gs at h1
      grind
theorem gs_col (M:Nat→Nat→Rat) (r c i:Nat) (h:M r c ≠ 0):gs M r c i c = 0:=by unfold gs; grind
theorem gauss_zero (ps:List (Nat × Nat)):∀ {M:Nat→Nat→Rat} {c:Nat},(∀ i,M i c = 0)→∀ i,gauss M ps i c = 0:=by
  induction ps with
  | nil => intro M c h i; exact h i
  | cons p t ih =>
    intro M c h i
    refine ih (M:=gs M p.1 p.2) (fun i => ?_) i
    unfold gs
    rw [h i,h p.1]; grind
theorem gauss_col (ps:List (Nat × Nat)):∀ {M:Nat→Nat→Rat},pivOk M ps→∀ p ∈ ps,∀ i,gauss M ps i p.2 = 0:=by
  induction ps with
  | nil => intro M _ p hp; cases hp
  | cons q t ih =>
    intro M h p hp i
    rcases List.mem_cons.1 hp with rfl | hp
    · exact gauss_zero t (M:=gs M p.1 p.2) (fun i => gs_col M p.1 p.2 i h.1) i
    · exact ih h.2 p hp i
def rowAt (ps:List (Nat × Nat)) (a:Nat):Nat:=(ps.getD a (0,0)).1
def colAt (ps:List (Nat × Nat)) (a:Nat):Nat:=(ps.getD a (0,0)).2
theorem rowOf_at (t:List (Nat × Nat)) (r c:Nat):∀ a,a≤t.length→rowOf t r a = rowAt (t ++ [(r,c)]) a∧colOf t c a = colAt (t ++ [(r,c)]) a:=by
  induction t with
  | nil => intro a ha; obtain rfl : a = 0 := by simpa using ha
           exact ⟨rfl,rfl⟩
  | cons p t ih =>
    intro a ha
    cases a with
    | zero => exact ⟨rfl,rfl⟩
    | succ a => exact ih a (by simpa using ha)
theorem prodP_det (ps:List (Nat × Nat)) (M:Nat→Nat→Rat) (h:pivOk M ps):prodP M ps = det ps.length (fun a b => M (rowAt ps a) (colAt ps b)):=by
  rcases List.eq_nil_or_concat ps with rfl | ⟨t,⟨r,c⟩,rfl⟩
  · rfl
  · rw [List.concat_eq_append] at h ⊢
    have h1:=(pivOk_snoc t r c M).1 h
    rw [prodP_snoc,← minor_gauss t r c h1.1,List.length_append]
    unfold minor
    refine det_congr fun a b ha hb => ?_
    have e1:=(rowOf_at t r c a (by omega)).1
    have e2:=(rowOf_at t r c b (by omega)).2
    rw [e1,e2]
theorem rsum_sm (M:Nat→Nat→Rat) (X:Nat→Rat) (i:Nat) (l:List Nat):rsum M X i l = sm l.length (fun k => M i (l.getD k 0) * X (l.getD k 0)):=by
  induction l with
  | nil => rfl
  | cons c t ih =>
    rw [List.length_cons,sm_head]
    show M i c * X c + rsum M X i t = M i c * X c + _
    rw [ih]
    rfl
theorem solved_int {M:Nat→Nat→Int} {ps:List (Nat × Nat)} {X:Nat→Rat} {b:Nat} (hok:pivOk (cast M) ps) (h:∀ p ∈ ps,rsum (cast M) X p.1 (ps.map Prod.snd) = prodP (cast M) ps * cast M p.1 b):∀ j,j < ps.length→∃ z:Int,X (colAt ps j) = (z:Rat):=by
  intro j hj
  have hl:(ps.map Prod.snd).length = ps.length:=List.length_map ..
  have e:=cramer (n:=ps.length) (j:=j) (A:=fun a k => cast M (rowAt ps a) (colAt ps k)) (x:=fun k => X (colAt ps k)) (y:=fun a => prodP (cast M) ps * cast M (rowAt ps a) b) hj (fun i hi => by
    have h1:=h (ps[i]) (List.getElem_mem hi)
    rw [rsum_sm,hl] at h1
    have er:rowAt ps i = ps[i].1:=by unfold rowAt; rw [List.getD_eq_getElem?_getD,List.getElem?_eq_getElem hi]; rfl
    rw [er,← h1]
    refine sm_congr fun k hk => ?_
    have ec:(ps.map Prod.snd).getD k 0 = colAt ps k:=by
      unfold colAt
      rw [List.getD_eq_getElem?_getD,List.getD_eq_getElem?_getD,List.getElem?_map,List.getElem?_eq_getElem hk]
      rfl
    rw [ec])
  have hd:=prodP_det ps (cast M) hok
  have hne:=prodP_ne ps hok
  have hm:=det_lin (n:=ps.length) (A:=fun a k => cast M (rowAt ps a) (colAt ps k)) (j:=j) (x:=prodP (cast M) ps) (y:=0) (u:=fun a => cast M (rowAt ps a) b) (v:=fun _ => 0) hj
  rw [show (fun i => prodP (cast M) ps * cast M (rowAt ps i) b + 0 * (0:Rat)) = fun i => prodP (cast M) ps * cast M (rowAt ps i) b from funext fun i => by grind] at hm
  rw [hm,← hd] at e
  obtain ⟨z,hz⟩:=det_int (n:=ps.length) (A:=upd (fun a k => cast M (rowAt ps a) (colAt ps k)) j (fun a => cast M (rowAt ps a) b)) (fun a k => by
    unfold upd
    split
    · exact ⟨M (rowAt ps a) b,rfl⟩
    · exact ⟨M (rowAt ps a) (colAt ps k),rfl⟩)
  refine ⟨z,?_⟩
  rw [hz] at e
  grind
end Ba
end Go.Proofs.YtdcgdpbgnijnpaaGreat

namespace Go.Proofs.YtdcgdpbgnijnpaaGreat
namespace Ba
/- Any two columns,any two rows changed about. -/
theorem det_swap2 {n p q:Nat} {A:Nat→Nat→Rat} (u v:Nat→Rat) (hp:p < n) (hq:q < n) (hpq:p ≠ q):det n (upd (upd A p u) q v) = -det n (upd (upd A p v) q u):=by
 have h0:∀ x:Nat→Rat,det n (upd (upd A p x) q x) = 0:=fun x => det_same hp hq hpq fun i _ => by
  unfold upd
  rw [if_neg hpq,if_pos rfl,if_pos rfl]
 have f1:∀ x y z:Nat→Rat,det n (upd (upd A p (fun i => x i + y i)) q z) = det n (upd (upd A p x) q z) + det n (upd (upd A p y) q z):=fun x y z => by
  rw [upd_comm hpq,upd_comm hpq (u:=x),upd_comm hpq (u:=y)]
  exact det_add hp
 have f2:∀ x y z:Nat→Rat,det n (upd (upd A p z) q (fun i => x i + y i)) = det n (upd (upd A p z) q x) + det n (upd (upd A p z) q y):=fun x y z => det_add hq
 have h1:=h0 (fun i => u i + v i)
 rw [f1,f2,f2,h0,h0] at h1
 grind
def tr2 (p q k:Nat):Nat:=if k = p then q else if k = q then p else k
theorem det_cols {n p q:Nat} (A:Nat→Nat→Rat) (hp:p < n) (hq:q < n) (hpq:p ≠ q):det n (fun i k => A i (tr2 p q k)) = -det n A:=by
 have e1:(fun i k => A i (tr2 p q k)) = upd (upd A p (fun i => A i q)) q (fun i => A i p):=by
  funext i k
  unfold upd tr2
  by_cases h1:k = q
  ·
   rw [if_neg (show ¬ k = p by omega),if_pos h1,if_pos h1]
  ·
   by_cases h2:k = p
   ·
    rw [if_pos h2,if_neg h1,if_pos h2]
   ·
    rw [if_neg h2,if_neg h1,if_neg h1,if_neg h2]
 have e2:A = upd (upd A p (fun i => A i p)) q (fun i => A i q):=by rw [upd_self,upd_self]
 rw [e1,det_swap2 _ _ hp hq hpq,← e2]
theorem det_rows {n p q:Nat} (A:Nat→Nat→Rat) (hp:p < n) (hq:q < n) (hpq:p ≠ q):det n (fun i k => A (tr2 p q i) k) = -det n A:=by
 rw [← det_tp n A,← det_cols (tp A) hp hq hpq,← det_tp]
 rfl
theorem det_perm {l l':List Nat} (h:l.Perm l'):∃ s:Rat,(s = 1 ∨ s = -1)∧∀ N:Nat→Nat→Rat,det l.length (fun a b => N (l.getD a 0) b) = s * det l'.length (fun a b => N (l'.getD a 0) b):=by
 induction h with
 | nil => exact ⟨1,Or.inl rfl,fun N => by show (1:Rat) = 1 * 1; grind⟩
 | cons x _ ih =>
  obtain ⟨s,hs,h⟩:=ih
  rename_i l1 l2 hp
  refine ⟨s,hs,fun N => ?_⟩
  have hl:=hp.length_eq
  rw [List.length_cons,List.length_cons,det_succ,det_succ,← sm_mul,← hl]
  refine sm_congr fun j _ => ?_
  have:=h (fun i k => N i (sk j k))
  show sg j * N x j * det l1.length (fun a b => N (l1.getD a 0) (sk j b)) = s * (sg j * N x j * det l1.length (fun a b => N (l2.getD a 0) (sk j b)))
  rw [this,hl]
  grind
 | swap x y l =>
  refine ⟨-1,Or.inr rfl,fun N => ?_⟩
  rw [List.length_cons,List.length_cons,List.length_cons,List.length_cons]
  have h:=det_rows (n:=l.length + 1 + 1) (p:=0) (q:=1) (fun a b => N ((x :: y :: l).getD a 0) b) (by omega) (by omega) (by omega)
  rw [show (-1:Rat) * det (l.length + 1 + 1) (fun a b => N ((x :: y :: l).getD a 0) b) = -det (l.length + 1 + 1) (fun a b => N ((x :: y :: l).getD a 0) b) by grind,← h]
  refine det_congr fun i k _ _ => ?_
  match i with
  | 0 => rfl
  | 1 => rfl
  | i + 2 => rfl
 | trans _ _ ih1 ih2 =>
  obtain ⟨s1,h1,f1⟩:=ih1
  obtain ⟨s2,h2,f2⟩:=ih2
  refine ⟨s1 * s2,?_,fun N => by rw [f1,f2]; grind⟩
  rcases h1 with rfl | rfl <;> rcases h2 with rfl | rfl <;> grind
theorem det_pivots (ps:List (Nat × Nat)):∀ (M:Nat→Nat→Rat) (R C:Nat→Nat) (m:Nat),pivOk M ps→(∀ a,a < ps.length→R a = rowAt ps a∧C a = colAt ps a)→det (ps.length + m) (fun a b => M (R a) (C b)) = prodP M ps * det m (fun a b => gauss M ps (R (ps.length + a)) (C (ps.length + b))):=by
 induction ps with
 | nil =>
  intro M R C m _ _
  show det (0 + m) _ = 1 * det m (fun a b => M (R (0 + a)) (C (0 + b)))
  rw [Nat.zero_add]
  rw [det_congr (A:=fun a b => M (R (0 + a)) (C (0 + b))) (B:=fun a b => M (R a) (C b)) fun i j _ _ => by rw [Nat.zero_add,Nat.zero_add]]
  grind
 | cons p t ih =>
  intro M R C m h hR
  have h0:=hR 0 (by rw [List.length_cons]; omega)
  have e0:R 0 = p.1∧C 0 = p.2:=h0
  rw [List.length_cons,show t.length + 1 + m = t.length + m + 1 by omega,det_step (by rw [e0.1,e0.2]; exact h.1)]
  have:=ih (gs M p.1 p.2) (fun a => R (a + 1)) (fun a => C (a + 1)) m h.2 (fun a ha => hR (a + 1) (by rw [List.length_cons]; omega))
  have e1:det (t.length + m) (fun i j => M (R (i + 1)) (C (j + 1)) - M (R (i + 1)) (C 0) * M (R 0) (C (j + 1)) / M (R 0) (C 0)) = det (t.length + m) (fun a b => gs M p.1 p.2 (R (a + 1)) (C (b + 1))):=det_congr fun i j _ _ => by unfold gs; rw [e0.1,e0.2]
  rw [e1,this,e0.1,e0.2]
  show _ = M p.1 p.2 * prodP (gs M p.1 p.2) t * det m (fun a b => gauss (gs M p.1 p.2) t (R (t.length + 1 + a)) (C (t.length + 1 + b)))
  rw [det_congr (A:=fun a b => gauss (gs M p.1 p.2) t (R (t.length + a + 1)) (C (t.length + b + 1))) (B:=fun a b => gauss (gs M p.1 p.2) t (R (t.length + 1 + a)) (C (t.length + 1 + b))) fun i j _ _ => by rw [show t.length + i + 1 = t.length + 1 + i by omega,show t.length + j + 1 = t.length + 1 + j by omega]]
  grind
end Ba
end Go.Proofs.YtdcgdpbgnijnpaaGreat

namespace Go.Proofs.YtdcgdpbgnijnpaaGreat
namespace Ba
/- What is linear in each column,and 0 where two are alike,is a multiple of the determinant. -/
structure Alt (n:Nat) (F:(Nat→Nat→Rat)→Rat):Prop where
 cong:∀ A B,(∀ i j,i < n→j < n→A i j = B i j)→F A = F B
 lin:∀ A j x y u v,j < n→F (upd A j (fun i => x * u i + y * v i)) = x * F (upd A j u) + y * F (upd A j v)
 same:∀ A p q,p < n→q < n→p ≠ q→(∀ i,i < n→A i p = A i q)→F A = 0
theorem det_alt (n:Nat):Alt n (det n):=⟨fun _ _ h => det_congr h,fun _ _ _ _ _ _ hj => det_lin hj,fun _ _ _ hp hq hpq h => det_same hp hq hpq h⟩
section
variable {n:Nat} {F:(Nat→Nat→Rat)→Rat}
theorem Alt.zero (h:Alt n F) (A:Nat→Nat→Rat) {j:Nat} (hj:j < n):F (upd A j (fun _ => 0)) = 0:=by
 have h1:=h.lin A j 0 0 (fun _ => 0) (fun _ => 0) hj
 rw [show (fun i:Nat => (0:Rat) * (fun _:Nat => (0:Rat)) i + 0 * (fun _:Nat => (0:Rat)) i) = fun _ => 0 from funext fun _ => by grind] at h1
 rw [h1]; grind
theorem Alt.sum (h:Alt n F) (A:Nat→Nat→Rat) {j:Nat} (hj:j < n) (m:Nat) (x:Nat→Rat) (v:Nat→Nat→Rat):F (upd A j (fun i => sm m (fun k => x k * v k i))) = sm m (fun k => x k * F (upd A j (v k))):=by
 induction m with
 | zero => exact h.zero A hj
 | succ m ih =>
  show F (upd A j (fun i => sm m (fun k => x k * v k i) + x m * v m i)) = sm m (fun k => x k * F (upd A j (v k))) + x m * F (upd A j (v m))
  have h1:=h.lin A j 1 (x m) (fun i => sm m (fun k => x k * v k i)) (v m) hj
  rw [show (fun i => (1:Rat) * sm m (fun k => x k * v k i) + x m * v m i) = fun i => sm m (fun k => x k * v k i) + x m * v m i from funext fun i => by grind] at h1
  rw [h1,ih]; grind
theorem Alt.add (h:Alt n F) (A:Nat→Nat→Rat) {j:Nat} (u v:Nat→Rat) (hj:j < n):F (upd A j (fun i => u i + v i)) = F (upd A j u) + F (upd A j v):=by
 have h1:=h.lin A j 1 1 u v hj
 rw [show (fun i => (1:Rat) * u i + 1 * v i) = fun i => u i + v i from funext fun i => by grind] at h1
 rw [h1]; grind
theorem Alt.cols (h:Alt n F) (A:Nat→Nat→Rat) {p q:Nat} (hp:p < n) (hq:q < n) (hpq:p ≠ q):F (fun i k => A i (tr2 p q k)) = -F A:=by
 have h0:∀ x:Nat→Rat,F (upd (upd A p x) q x) = 0:=fun x => h.same _ p q hp hq hpq fun i _ => by
  unfold upd
  rw [if_neg hpq,if_pos rfl,if_pos rfl]
 have f1:∀ x y z:Nat→Rat,F (upd (upd A p (fun i => x i + y i)) q z) = F (upd (upd A p x) q z) + F (upd (upd A p y) q z):=fun x y z => by
  rw [upd_comm hpq,upd_comm hpq (u:=x),upd_comm hpq (u:=y)]
  exact h.add _ x y hp
 have f2:∀ x y z:Nat→Rat,F (upd (upd A p z) q (fun i => x i + y i)) = F (upd (upd A p z) q x) + F (upd (upd A p z) q y):=fun x y z => h.add _ x y hq
 have h1:=h0 (fun i => A i p + A i q)
 rw [f1,f2,f2,h0,h0] at h1
 have e1:(fun i k => A i (tr2 p q k)) = upd (upd A p (fun i => A i q)) q (fun i => A i p):=by
  funext i k
  unfold upd tr2
  by_cases h1:k = q
  ·
   rw [if_neg (show ¬ k = p by omega),if_pos h1,if_pos h1]
  ·
   by_cases h2:k = p
   ·
    rw [if_pos h2,if_neg h1,if_pos h2]
   ·
    rw [if_neg h2,if_neg h1,if_neg h1,if_neg h2]
 have e2:A = upd (upd A p (fun i => A i p)) q (fun i => A i q):=by rw [upd_self,upd_self]
 rw [e1]
 conv => rhs; rw [e2]
 grind
end
def one:Nat→Nat→Rat:=fun i j => if i = j then 1 else 0
theorem det_one (n:Nat):det n one = 1:=by
 induction n with
 | zero => rfl
 | succ n ih =>
  rw [det_step (by decide)]
  rw [det_congr (A:=fun i j => one (i + 1) (j + 1) - one (i + 1) 0 * one 0 (j + 1) / one 0 0) (B:=one) fun i j _ _ => by
   unfold one
   rw [if_neg (show ¬ i + 1 = 0 by omega)]
   by_cases e:i = j
   ·
    rw [if_pos (by omega),if_pos e]; grind
   ·
    rw [if_neg (by omega),if_neg e]; grind,ih]
  show (1:Rat) * 1 = 1
  grind
theorem pigeon:∀ (k:Nat) (f:Nat→Nat),(∀ i,i≤k→f i < k)→∃ i j,i < j∧j≤k∧f i = f j:=by
 intro k
 induction k with
 | zero => intro f h; exact absurd (h 0 (by omega)) (by omega)
 | succ k ih =>
  intro f h
  by_cases hx:∃ i,i < k + 1∧f i = f (k + 1)
  ·
   obtain ⟨i,h1,h2⟩:=hx
   exact ⟨i,k + 1,h1,by omega,h2⟩
  ·
   have hne:∀ i,i≤k→f i ≠ f (k + 1):=fun i hi e => hx ⟨i,by omega,e⟩
   have hl:=h (k + 1) (by omega)
   obtain ⟨i,j,h1,h2,h3⟩:=ih (fun i => if f i = k then f (k + 1) else f i) (fun i hi => by
    have h4:=h i (by omega)
    have h5:=hne i hi
    split
    ·
     omega
    ·
     omega)
   refine ⟨i,j,h1,by omega,?_⟩
   have h4:=hne i (by omega)
   have h5:=hne j (by omega)
   have h3:(if f i = k then f (k + 1) else f i) = (if f j = k then f (k + 1) else f j):=h3
   by_cases e1:f i = k
   ·
    by_cases e2:f j = k
    ·
     omega
    ·
     rw [if_pos e1,if_neg e2] at h3; omega
   ·
    by_cases e2:f j = k
    ·
     rw [if_neg e1,if_pos e2] at h3; omega
    ·
     rw [if_neg e1,if_neg e2] at h3; exact h3
def unitM (f:Nat→Nat):Nat→Nat→Rat:=fun i j => if i = f j then 1 else 0
theorem Alt.units {n:Nat} {F:(Nat→Nat→Rat)→Rat} (h:Alt n F):∀ (d p:Nat),p + d = n→∀ f:Nat→Nat,(∀ j,j < n→f j < n)→(∀ j,j < p→f j = j)→F (unitM f) = F one * det n (unitM f):=by
 intro d
 induction d with
 | zero =>
  intro p hp f hf hx
  have e1:=h.cong (unitM f) one fun i j _ hj => by unfold unitM one; rw [hx j (by omega)]
  have e2:=det_congr (n:=n) (A:=unitM f) (B:=one) fun i j _ hj => by unfold unitM one; rw [hx j (by omega)]
  rw [e1,e2,det_one]; grind
 | succ d ih =>
  intro p hp f hf hx
  by_cases hq:∃ q,p≤q∧q < n∧f q = p
  ·
   obtain ⟨q,h1,h2,h3⟩:=hq
   by_cases e:q = p
   ·
    subst e
    refine ih (q + 1) (by omega) f hf fun j hj => ?_
    by_cases e2:j = q
    ·
     rw [e2,h3]
    ·
     exact hx j (by omega)
   ·
    have hs:=ih (p + 1) (by omega) (fun j => f (tr2 p q j)) (fun j hj => hf _ (by unfold tr2; split <;> (try split) <;> omega)) (fun j hj => by
     unfold tr2
     by_cases e2:j = p
     ·
      rw [if_pos e2,h3,e2]
     ·
      rw [if_neg e2,if_neg (by omega)]
      exact hx j (by omega))
    have e1:=h.cols (unitM f) (p:=p) (q:=q) (by omega) h2 (by omega)
    have e2:=det_cols (n:=n) (unitM f) (p:=p) (q:=q) (by omega) h2 (by omega)
    have e3:unitM (fun j => f (tr2 p q j)) = fun i k => unitM f i (tr2 p q k):=rfl
    rw [e3,e1,e2] at hs
    grind
  ·
   -- no place leads to p: two columns are alike
   have hz:∃ i j,i < n∧j < n∧i ≠ j∧f i = f j:=by
    by_cases hy:∃ j,p≤j∧j < n∧f j < p
    ·
     obtain ⟨j,h1,h2,h3⟩:=hy
     exact ⟨f j,j,by omega,h2,by omega,by rw [hx (f j) h3]⟩
    ·
     have hge:∀ j,p≤j→j < n→p < f j:=fun j h1 h2 => by
      have h3:¬ f j < p:=fun h3 => hy ⟨j,h1,h2,h3⟩
      have h4:f j ≠ p:=fun h4 => hq ⟨j,h1,h2,h4⟩
      omega
     obtain ⟨i,j,h1,h2,h3⟩:=pigeon d (fun k => f (p + k) - (p + 1)) (fun k hk => by
      have h4:=hge (p + k) (by omega) (by omega)
      have h5:=hf (p + k) (by omega)
      omega)
     have h4:=hge (p + i) (by omega) (by omega)
     have h5:=hge (p + j) (by omega) (by omega)
     have h3:f (p + i) - (p + 1) = f (p + j) - (p + 1):=h3
     exact ⟨p + i,p + j,by omega,by omega,by omega,by omega⟩
   obtain ⟨i,j,h1,h2,h3,h4⟩:=hz
   rw [h.same (unitM f) i j h1 h2 h3 fun a _ => by unfold unitM; rw [h4],det_same h1 h2 h3 (A:=unitM f) fun a _ => by unfold unitM; rw [h4]]
   grind
theorem Alt.unique {n:Nat} {F:(Nat→Nat→Rat)→Rat} (h:Alt n F):∀ (d m:Nat),m + d = n→∀ (B:Nat→Nat→Rat) (f:Nat→Nat),(∀ j,j < m→f j < n∧∀ i,i < n→B i j = if i = f j then 1 else 0)→F B = F one * det n B:=by
 intro d
 induction d with
 | zero =>
  intro m hm B f hB
  have e1:=h.cong B (unitM f) fun i j hi hj => (hB j (by omega)).2 i hi
  have e2:=det_congr (n:=n) (A:=B) (B:=unitM f) fun i j hi hj => (hB j (by omega)).2 i hi
  have:=h.units n 0 (by omega) (fun j => f j) (fun j hj => (hB j (by omega)).1) (fun j hj => by omega)
  rw [e1,e2]
  exact this
 | succ d ih =>
  intro m hm B f hB
  have hcol:∀ i j,i < n→j < n→B i j = upd B m (fun i => sm n (fun k => B k m * (fun k i => if i = k then (1:Rat) else 0) k i)) i j:=by
   intro i j hi _
   unfold upd
   by_cases e:j = m
   ·
    rw [if_pos e,e]
    dsimp only
    rw [sm_one (j:=i) hi fun k _ hne => by rw [if_neg (fun e' => hne e'.symm)]; grind,if_pos rfl]
    grind
   ·
    rw [if_neg e]
  rw [h.cong _ _ hcol,det_congr hcol,h.sum B (by omega),(det_alt n).sum B (by omega),← sm_mul]
  refine sm_congr fun k hk => ?_
  rw [ih (m + 1) (by omega) (upd B m (fun i => if i = k then (1:Rat) else 0)) (fun j => if j = m then k else f j) fun j hj => ?_]
  ·
   grind
  ·
   by_cases e:j = m
   ·
    refine ⟨by rw [if_pos e]; exact hk,fun i _ => ?_⟩
    unfold upd
    rw [if_pos e,if_pos e]
   ·
    refine ⟨by rw [if_neg e]; exact (hB j (by omega)).1,fun i hi => ?_⟩
    unfold upd
    rw [if_neg e,if_neg e]
    exact (hB j (by omega)).2 i hi
def mul (n:Nat) (A B:Nat→Nat→Rat):Nat→Nat→Rat:=fun i j => sm n (fun k => A i k * B k j)
/- Hadamard's bound. -/
def gram (N:Nat) (V:Nat→Nat→Rat):Nat→Nat→Rat:=fun i j => sm N (fun k => V i k * V j k)
def pr:Nat→(Nat→Rat)→Rat
 | 0,_ => 1
 | n + 1,f => f 0 * pr n (fun k => f (k + 1))
end Ba
end Go.Proofs.YtdcgdpbgnijnpaaGreat

namespace Go.Proofs.YtdcgdpbgnijnpaaGreat
namespace Ba
/- The stages as they are worked out. -/
def barQ:(Nat→Nat→Int)→Int→List (Nat × Nat)→(Nat→Nat→Int) × Int
 | m,q,[] => (m,q)
 | m,q,p :: t => barQ (bstep m q p.1 p.2) (m p.1 p.2) t
def stg (M:Nat→Nat→Int) (ps:List (Nat × Nat)):Nat→Nat→Int:=(barQ M 1 ps).1
def lastP (M:Nat→Nat→Int) (ps:List (Nat × Nat)):Int:=(barQ M 1 ps).2
def pivs (m:Nat→Nat→Int) (q:Int):List (Nat × Nat)→Prop
 | [] => True
 | p :: t => m p.1 p.2 ≠ 0∧pivs (bstep m q p.1 p.2) (m p.1 p.2) t
theorem barQ_snoc (ps:List (Nat × Nat)) (p:Nat × Nat):∀ (m:Nat→Nat→Int) (q:Int),barQ m q (ps ++ [p]) = (bstep (barQ m q ps).1 (barQ m q ps).2 p.1 p.2,(barQ m q ps).1 p.1 p.2):=by
 induction ps with
 | nil => intro m q; rfl
 | cons a t ih => intro m q; exact ih _ _
theorem stg_snoc (M:Nat→Nat→Int) (ps:List (Nat × Nat)) (r c:Nat):stg M (ps ++ [(r,c)]) = bstep (stg M ps) (lastP M ps) r c∧lastP M (ps ++ [(r,c)]) = stg M ps r c:=by
 unfold stg lastP
 rw [barQ_snoc]
 exact ⟨rfl,rfl⟩
theorem pivs_snoc (ps:List (Nat × Nat)) (p:Nat × Nat):∀ (m:Nat→Nat→Int) (q:Int),pivs m q (ps ++ [p]) ↔ pivs m q ps∧(barQ m q ps).1 p.1 p.2 ≠ 0:=by
 induction ps with
 | nil => intro m q; show (m p.1 p.2 ≠ 0∧True) ↔ (True∧m p.1 p.2 ≠ 0); simp
 | cons a t ih =>
  intro m q
  show (m a.1 a.2 ≠ 0∧pivs _ _ (t ++ [p])) ↔ ((m a.1 a.2 ≠ 0∧pivs _ _ t)∧_)
  rw [ih,and_assoc]
  rfl
theorem bar_go (M:Nat→Nat→Int) (t:List (Nat × Nat)):∀ (ps:List (Nat × Nat)) (m:Nat→Nat→Int) (q:Int),BarI M ps m q (fun _ => True)→pivs m q t→BarI M (ps ++ t) (barQ m q t).1 (barQ m q t).2 (fun _ => True):=by
 induction t with
 | nil => intro ps m q h _; rw [List.append_nil]; exact h
 | cons p t ih =>
  intro ps m q h hp
  have h1:=h.next (r:=p.1) (c:=p.2) trivial hp.1 (left':=fun _ => True) (fun _ _ => trivial) (m':=bstep m q p.1 p.2) (fun _ _ _ => rfl)
  have h2:=ih (ps ++ [(p.1,p.2)]) _ _ h1 hp.2
  rw [List.append_assoc] at h2
  exact h2
theorem stg_bar {M:Nat→Nat→Int} {ps:List (Nat × Nat)} (h:pivs M 1 ps):BarI M ps (stg M ps) (lastP M ps) (fun _ => True):=by
 have:=bar_go M ps [] M 1 (BarI.start M _) h
 rw [List.nil_append] at this
 exact this
theorem stg_minor {M:Nat→Nat→Int} {ps:List (Nat × Nat)} (h:pivs M 1 ps) (i j:Nat):(stg M ps i j:Rat) = minor (cast M) ps i j:=(stg_bar h).num i j trivial
theorem last_prod {M:Nat→Nat→Int} {ps:List (Nat × Nat)} (h:pivs M 1 ps):(lastP M ps:Rat) = prodP (cast M) ps:=(stg_bar h).piv
theorem last_ne {M:Nat→Nat→Int} {ps:List (Nat × Nat)} (h:pivs M 1 ps):lastP M ps ≠ 0:=by
 intro e
 have h1:=last_prod h
 rw [e] at h1
 exact prodP_ne ps (stg_bar h).ok h1.symm
theorem stg_exact {M:Nat→Nat→Int} {ps:List (Nat × Nat)} (h:pivs M 1 ps) {r c:Nat} (hp:stg M ps r c ≠ 0) (i j:Nat):stg M ps r c * stg M ps i j - stg M ps i c * stg M ps r j = lastP M ps * stg M (ps ++ [(r,c)]) i j:=by
 obtain ⟨z,h1,h2⟩:=(stg_bar h).exact (r:=r) (c:=c) (i:=i) (j:=j) trivial trivial hp
 have h3:pivs M 1 (ps ++ [(r,c)]):=(pivs_snoc ps (r,c) M 1).2 ⟨h,hp⟩
 have h4:=stg_minor h3 i j
 rw [← h2] at h4
 rw [Rat.intCast_inj.1 h4]
 exact h1
theorem pivs_take {M:Nat→Nat→Int} {ps:List (Nat × Nat)} (h:pivs M 1 ps) (k:Nat):pivs M 1 (ps.take k):=by
 have key:∀ (ps:List (Nat × Nat)) (m:Nat→Nat→Int) (q:Int) (k:Nat),pivs m q ps→pivs m q (ps.take k):=by
  intro ps
  induction ps with
  | nil => intro m q k h; rw [List.take_nil]; exact h
  | cons p t ih =>
   intro m q k h
   cases k with
   | zero => exact trivial
   | succ k => exact ⟨h.1,ih _ _ k h.2⟩
 exact key ps M 1 k h
theorem stg_col {M:Nat→Nat→Int} {ps:List (Nat × Nat)} (h:pivs M 1 ps) {p:Nat × Nat} (hp:p ∈ ps) (i:Nat):stg M ps i p.2 = 0:=by
 have hb:=stg_bar h
 have h1:=(stg_minor h i p.2).trans (minor_gauss ps i p.2 hb.ok)
 rw [gauss_col ps hb.ok p hp i] at h1
 apply Rat.intCast_inj.1
 rw [h1]
 show _ * (0:Rat) = ((0:Int):Rat)
 grind
/- A right side: one column more. -/
def ext (n:Nat) (M:Nat→Nat→Int) (b:Nat→Int):Nat→Nat→Int:=fun i j => if j = n then b i else M i j
theorem bstep_congr {m m':Nat→Nat→Int} {r c n:Nat} {qq:Int} (hc:c ≠ n) (h:∀ i j,j ≠ n→m i j = m' i j):∀ i j,j ≠ n→bstep m qq r c i j = bstep m' qq r c i j:=by
 intro i j hj
 unfold bstep
 rw [h r c hc,h i j hj,h i c hc,h r j hj]
theorem ext_same (n:Nat) (ps:List (Nat × Nat)):∀ (m m':Nat→Nat→Int) (q:Int),(∀ p ∈ ps,p.2 ≠ n)→(∀ i j,j ≠ n→m i j = m' i j)→(∀ i j,j ≠ n→(barQ m q ps).1 i j = (barQ m' q ps).1 i j)∧(barQ m q ps).2 = (barQ m' q ps).2∧(pivs m q ps ↔ pivs m' q ps):=by
 induction ps with
 | nil => intro m m' q _ h; exact ⟨h,rfl,Iff.rfl⟩
 | cons p t ih =>
  intro m m' q hp h
  have hc:=hp p (List.mem_cons_self ..)
  have e:=h p.1 p.2 hc
  have:=ih (bstep m q p.1 p.2) (bstep m' q p.1 p.2) (m p.1 p.2) (fun x hx => hp x (List.mem_cons_of_mem _ hx)) (bstep_congr hc h)
  rw [e] at this
  refine ⟨?_,?_,?_⟩
  ·
   show ∀ i j,j ≠ n→(barQ (bstep m q p.1 p.2) (m p.1 p.2) t).1 i j = _
   rw [e]; exact this.1
  ·
   show (barQ (bstep m q p.1 p.2) (m p.1 p.2) t).2 = _
   rw [e]; exact this.2.1
  ·
   show (m p.1 p.2 ≠ 0∧pivs (bstep m q p.1 p.2) (m p.1 p.2) t) ↔ (m' p.1 p.2 ≠ 0∧pivs (bstep m' q p.1 p.2) (m' p.1 p.2) t)
   rw [e,this.2.2]
def isum (m:Nat→Nat→Int) (X:Nat→Int) (i:Nat):List Nat→Int
 | [] => 0
 | c :: t => m i c * X c + isum m X i t
structure IsSol (n:Nat) (M:Nat→Nat→Int) (b:Nat→Int) (ps:List (Nat × Nat)) (X:Nat→Int):Prop where
 row:∀ k (hk:k < ps.length),isum (stg M (ps.take k)) X ps[k].1 ((ps.drop k).map Prod.snd) = lastP M ps * stg (ext n M b) (ps.take k) ps[k].1 n
end Ba
end Go.Proofs.YtdcgdpbgnijnpaaGreat

namespace Go.Proofs.YtdcgdpbgnijnpaaGreat
namespace Ba
/- That there is one,that it is the only one,and what it solves. -/
theorem rsum_congr {M:Nat→Nat→Rat} {X Y:Nat→Rat} {i:Nat} {l:List Nat} (h:∀ c ∈ l,X c = Y c):rsum M X i l = rsum M Y i l:=by
 induction l with
 | nil => rfl
 | cons a t ih =>
  show M i a * X a + rsum M X i t = M i a * Y a + rsum M Y i t
  rw [h a (List.mem_cons_self ..),ih fun c hc => h c (List.mem_cons_of_mem _ hc)]
theorem rsum_app (M:Nat→Nat→Rat) (X:Nat→Rat) (i:Nat) (l l':List Nat):rsum M X i (l ++ l') = rsum M X i l + rsum M X i l':=by
 induction l with
 | nil => show rsum M X i l' = 0 + rsum M X i l'; grind
 | cons a t ih =>
  show M i a * X a + rsum M X i (t ++ l') = M i a * X a + rsum M X i t + rsum M X i l'
  rw [ih]; grind
theorem rsum_null {M:Nat→Nat→Rat} {X:Nat→Rat} {i:Nat} {l:List Nat} (h:∀ c ∈ l,M i c = 0):rsum M X i l = 0:=by
 induction l with
 | nil => rfl
 | cons a t ih =>
  show M i a * X a + rsum M X i t = 0
  rw [h a (List.mem_cons_self ..),ih fun c hc => h c (List.mem_cons_of_mem _ hc)]; grind
def solT (M:Nat→Nat→Rat) (X:Nat→Rat) (D:Rat) (b:Nat):List (Nat × Nat)→Prop
 | [] => True
 | p :: t => M p.1 p.2 * X p.2 + rsum M X p.1 (t.map Prod.snd) = D * M p.1 b∧solT (gs M p.1 p.2) X D b t
theorem solT_congr (D:Rat) (b:Nat) (ps:List (Nat × Nat)):∀ {M:Nat→Nat→Rat} {X Y:Nat→Rat},(∀ p ∈ ps,X p.2 = Y p.2)→solT M X D b ps→solT M Y D b ps:=by
 induction ps with
 | nil => intro M X Y _ _; exact trivial
 | cons p t ih =>
  intro M X Y h hs
  refine ⟨?_,ih (fun q hq => h q (List.mem_cons_of_mem _ hq)) hs.2⟩
  rw [← h p (List.mem_cons_self ..),← rsum_congr (X:=X) fun c hc => by
   obtain ⟨q,hq,rfl⟩:=List.mem_map.1 hc
   exact h q (List.mem_cons_of_mem _ hq)]
  exact hs.1
theorem solT_ex (D:Rat) (b:Nat) (ps:List (Nat × Nat)):∀ {M:Nat→Nat→Rat},pivOk M ps→(ps.map Prod.snd).Nodup→∃ X:Nat→Rat,solT M X D b ps:=by
 induction ps with
 | nil => intro M _ _; exact ⟨fun _ => 0,trivial⟩
 | cons p t ih =>
  intro M h hn
  rw [List.map_cons,List.nodup_cons] at hn
  obtain ⟨X,hX⟩:=ih h.2 hn.2
  have hne:∀ q ∈ t,q.2 ≠ p.2:=fun q hq e => hn.1 (by rw [← e]; exact List.mem_map.2 ⟨q,hq,rfl⟩)
  obtain ⟨Z,hZ⟩:∃ Z:Nat→Rat,Z = fun a => if a = p.2 then (D * M p.1 b - rsum M X p.1 (t.map Prod.snd)) / M p.1 p.2 else X a:=⟨_,rfl⟩
  have hp:Z p.2 = (D * M p.1 b - rsum M X p.1 (t.map Prod.snd)) / M p.1 p.2:=by rw [hZ]; show (if p.2 = p.2 then _ else _) = _; rw [if_pos rfl]
  have hq:∀ q ∈ t,X q.2 = Z q.2:=fun q hq => by rw [hZ]; show _ = (if q.2 = p.2 then _ else _); rw [if_neg (hne q hq)]
  refine ⟨Z,?_,solT_congr D b t hq hX⟩
  rw [hp,← rsum_congr (X:=X) (Y:=Z) fun c hc => by
   obtain ⟨q,hq',rfl⟩:=List.mem_map.1 hc
   exact hq q hq']
  have:=h.1
  generalize rsum M X p.1 (t.map Prod.snd) = y
  generalize M p.1 p.2 = a at this
  grind
theorem solT_all (X:Nat→Rat) (D:Rat) (b:Nat) (ps:List (Nat × Nat)):∀ {M:Nat→Nat→Rat} (l:List Nat),pivOk M ps→(∀ c ∈ l,∀ i,M i c = 0)→solT M X D b ps→solved M X D b (l ++ ps.map Prod.snd) ps:=by
 induction ps with
 | nil => intro M l _ _ _; exact trivial
 | cons p t ih =>
  intro M l h hz hs
  refine ⟨?_,?_⟩
  ·
   rw [rsum_app,rsum_null fun c hc => hz c hc p.1]
   show 0 + (M p.1 p.2 * X p.2 + rsum M X p.1 (t.map Prod.snd)) = D * M p.1 b
   rw [hs.1]; grind
  ·
   have:=ih (M:=gs M p.1 p.2) (l ++ [p.2]) h.2 (fun c hc i => by
    rcases List.mem_append.1 hc with hc | hc
    ·
     unfold gs; rw [hz c hc i,hz c hc p.1]; grind
    ·
     rw [List.mem_singleton.1 hc]; exact gs_col M p.1 p.2 i h.1) hs.2
   rw [List.append_assoc] at this
   exact this
theorem solT_at (D:Rat) (b:Nat) (X:Nat→Rat) (ps:List (Nat × Nat)):∀ {M:Nat→Nat→Rat},solT M X D b ps ↔ ∀ k (hk:k < ps.length),rsum (gauss M (ps.take k)) X ps[k].1 ((ps.drop k).map Prod.snd) = D * gauss M (ps.take k) ps[k].1 b:=by
 induction ps with
 | nil => intro M; exact ⟨fun _ k hk => absurd hk (Nat.not_lt_zero _),fun _ => trivial⟩
 | cons p t ih =>
  intro M
  constructor
  ·
   rintro ⟨h1,h2⟩ k hk
   cases k with
   | zero => exact h1
   | succ k => exact ih.1 h2 k (by simpa using hk)
  ·
   intro h
   exact ⟨h 0 (by rw [List.length_cons]; omega),ih.2 fun k hk => h (k + 1) (by rw [List.length_cons]; omega)⟩
theorem isum_cast (m:Nat→Nat→Int) (X:Nat→Int) (i:Nat) (l:List Nat):(isum m X i l:Rat) = rsum (cast m) (fun c => (X c:Rat)) i l:=by
 induction l with
 | nil => rfl
 | cons c t ih =>
  show ((m i c * X c + isum m X i t:Int):Rat) = (m i c:Rat) * (X c:Rat) + _
  rw [Rat.intCast_add,Rat.intCast_mul,ih]
theorem rsum_mul (x:Rat) (M N:Nat→Nat→Rat) (X:Nat→Rat) (i:Nat) (l:List Nat) (h:∀ c ∈ l,M i c = x * N i c):rsum M X i l = x * rsum N X i l:=by
 induction l with
 | nil => show (0:Rat) = x * 0; grind
 | cons a t ih =>
  show M i a * X a + rsum M X i t = x * (N i a * X a + rsum N X i t)
  rw [h a (List.mem_cons_self ..),ih fun c hc => h c (List.mem_cons_of_mem _ hc)]; grind
section
variable {n:Nat} {M:Nat→Nat→Int} {b:Nat→Int} {ps:List (Nat × Nat)}
theorem ext_pivs (h:pivs M 1 ps) (hn:∀ p ∈ ps,p.2 ≠ n):pivs (ext n M b) 1 ps:=(ext_same n ps M (ext n M b) 1 hn (fun i j hj => by unfold ext; rw [if_neg hj])).2.2.1 h
theorem ext_stg (hn:∀ p ∈ ps,p.2 ≠ n):(∀ i j,j ≠ n→stg M ps i j = stg (ext n M b) ps i j)∧lastP M ps = lastP (ext n M b) ps:=by
 have:=ext_same n ps M (ext n M b) 1 hn (fun i j hj => by unfold ext; rw [if_neg hj])
 exact ⟨this.1,this.2.1⟩
theorem sol_iff (h:pivs M 1 ps) (hn:∀ p ∈ ps,p.2 ≠ n) (X:Nat→Int):IsSol n M b ps X ↔ solT (cast (ext n M b)) (fun c => (X c:Rat)) (lastP M ps:Rat) n ps:=by
 have hE:=ext_pivs (b:=b) h hn
 rw [solT_at]
 have key:∀ k (hk:k < ps.length),((isum (stg M (ps.take k)) X ps[k].1 ((ps.drop k).map Prod.snd):Int):Rat) = prodP (cast (ext n M b)) (ps.take k) * rsum (gauss (cast (ext n M b)) (ps.take k)) (fun c => (X c:Rat)) ps[k].1 ((ps.drop k).map Prod.snd)∧((lastP M ps * stg (ext n M b) (ps.take k) ps[k].1 n:Int):Rat) = prodP (cast (ext n M b)) (ps.take k) * ((lastP M ps:Rat) * gauss (cast (ext n M b)) (ps.take k) ps[k].1 n)∧prodP (cast (ext n M b)) (ps.take k) ≠ 0:=by
  intro k hk
  have hk1:=pivs_take hE k
  have hok:=(stg_bar hk1).ok
  have hm:∀ i j,(stg (ext n M b) (ps.take k) i j:Rat) = prodP (cast (ext n M b)) (ps.take k) * gauss (cast (ext n M b)) (ps.take k) i j:=fun i j => (stg_minor hk1 i j).trans (minor_gauss _ i j hok)
  have hs:=(ext_stg (n:=n) (M:=M) (b:=b) (ps:=ps.take k) fun p hp => hn p (List.mem_of_mem_take hp)).1
  refine ⟨?_,?_,prodP_ne _ hok⟩
  ·
   rw [isum_cast]
   refine rsum_mul _ _ _ _ _ _ fun c hc => ?_
   obtain ⟨q,hq,rfl⟩:=List.mem_map.1 hc
   rw [← hm]
   show (stg M (ps.take k) ps[k].1 q.2:Rat) = _
   rw [hs _ _ (hn q (List.mem_of_mem_drop hq))]
  ·
   rw [Rat.intCast_mul,hm]; grind
 constructor
 ·
  intro hS k hk
  obtain ⟨k1,k2,k3⟩:=key k hk
  have:=hS.row k hk
  rw [this] at k1
  rw [k1] at k2
  grind
 ·
  intro hS
  refine ⟨fun k hk => ?_⟩
  obtain ⟨k1,k2,k3⟩:=key k hk
  apply Rat.intCast_inj.1
  rw [k1,k2,hS k hk]
theorem sol_ex (h:pivs M 1 ps) (hn:∀ p ∈ ps,p.2 ≠ n) (hd:(ps.map Prod.snd).Nodup):∃ X:Nat→Int,IsSol n M b ps X:=by
 have hE:=ext_pivs (b:=b) h hn
 have hok:=(stg_bar hE).ok
 obtain ⟨Y,hY⟩:=solT_ex (lastP M ps:Rat) n ps hok hd
 have hl:(lastP M ps:Rat) = prodP (cast (ext n M b)) ps:=by rw [(ext_stg (n:=n) (b:=b) hn).2]; exact last_prod hE
 have h1:=solT_all Y (lastP M ps:Rat) n ps [] hok (fun c hc => by cases hc) hY
 have h2:=solved_rows _ _ _ _ ps h1
 rw [List.nil_append] at h2
 have h3:=solved_int (M:=ext n M b) (ps:=ps) (X:=Y) (b:=n) hok (fun p hp => by rw [← hl]; exact h2 p hp)
 -- the whole numbers,by column
 have h4:∀ q ∈ ps,∃ z:Int,Y q.2 = (z:Rat):=by
  intro q hq
  obtain ⟨j,hj,rfl⟩:=List.getElem_of_mem hq
  have:=h3 j hj
  unfold colAt at this
  rw [List.getD_eq_getElem?_getD,List.getElem?_eq_getElem hj] at this
  exact this
 refine ⟨fun c => (Y c).num,(sol_iff h hn _).2 (solT_congr _ _ ps (fun q hq => ?_) hY)⟩
 obtain ⟨z,hz⟩:=h4 q hq
 rw [hz]
 show (z:Rat) = (((z:Rat).num:Int):Rat)
 rw [Rat.num_intCast]
theorem sol_step {X:Nat→Int} (hS:IsSol n M b ps X) {k:Nat} (hk:k < ps.length):lastP M ps * stg (ext n M b) (ps.take k) ps[k].1 n - isum (stg M (ps.take k)) X ps[k].1 ((ps.drop (k + 1)).map Prod.snd) = stg M (ps.take k) ps[k].1 ps[k].2 * X ps[k].2:=by
 have h:=hS.row k hk
 rw [List.drop_eq_getElem_cons hk,List.map_cons] at h
 have h:stg M (ps.take k) ps[k].1 ps[k].2 * X ps[k].2 + isum (stg M (ps.take k)) X ps[k].1 ((ps.drop (k + 1)).map Prod.snd) = _:=h
 omega
end
end Ba
end Go.Proofs.YtdcgdpbgnijnpaaGreat

namespace Go.Proofs.YtdcgdpbgnijnpaaGreat
namespace Sp
def rowL (n:Nat) (m:Nat→Nat→Bool) (i:Nat):List Nat:=(List.range n).filter (m i)
def colL (n:Nat) (m:Nat→Nat→Bool) (k:Nat):List Nat:=(List.range n).filter (fun i => m i k)
def cost (n:Nat) (m:Nat→Nat→Bool) (r c:Nat):Int:=((rowL n m r).length - 1:Int) * ((colL n m c).length - 1:Int)
def elim (m:Nat→Nat→Bool) (r c:Nat):Nat→Nat→Bool:=fun i k => decide (i ≠ r) && (decide (k ≠ c) && (m i k || (m i c && m r k)))
def places (n:Nat) (p:Nat→Nat→Bool):List (Nat × Nat):=(List.range n).flatMap fun i => ((List.range n).filter (p i)).map fun k => (i,k)
def fillC (n:Nat) (m:Nat→Nat→Bool) (r c:Nat):Nat:=((List.range n).map fun i => ((List.range n).filter fun k => !m i k && (m i c && m r k)).length).sum
def tr (m:Nat→Nat→Bool):Nat→Nat→Bool:=fun i k => m k i
/- Turned. -/
/- The best place. -/
structure IsBest (n:Nat) (m:Nat→Nat→Bool) (r c:Nat):Prop where
 row:r < n
 col:c < n
 isin:m r c = true
 least:∀ i k,i < n→k < n→m i k = true→cost n m r c < cost n m i k ∨ (cost n m r c = cost n m i k∧(r < i ∨ (r = i∧c≤k)))
theorem IsBest.unique {n:Nat} {m:Nat→Nat→Bool} {r c r' c':Nat} (h:IsBest n m r c) (h':IsBest n m r' c'):r = r'∧c = c':=by
 have a:=h.least r' c' h'.row h'.col h'.isin
 have b:=h'.least r c h.row h.col h.isin
 omega
def less (n:Nat) (m:Nat→Nat→Bool) (o:Option (Nat × Nat)) (p:Nat × Nat):Option (Nat × Nat) :=
 if m p.1 p.2 = true then (match o with
  | none => some p
  | some q => if cost n m p.1 p.2 < cost n m q.1 q.2 then some p else some q) else o
def square (n:Nat):List (Nat × Nat):=(List.range n).flatMap fun i => (List.range n).map fun k => (i,k)
def bestOf (n:Nat) (m:Nat→Nat→Bool):Option (Nat × Nat):=(square n).foldl (less n m) none
theorem mem_square {n:Nat} {p:Nat × Nat}:p ∈ square n ↔ p.1 < n∧p.2 < n:=by
 unfold square
 rw [List.mem_flatMap]
 constructor
 ·
  rintro ⟨i,hi,h⟩
  obtain ⟨k,hk,rfl⟩:=List.mem_map.1 h
  exact ⟨List.mem_range.1 hi,List.mem_range.1 hk⟩
 ·
  rintro ⟨h1,h2⟩
  exact ⟨p.1,List.mem_range.2 h1,List.mem_map.2 ⟨p.2,List.mem_range.2 h2,rfl⟩⟩
def ahead (p q:Nat × Nat):Prop:=p.1 < q.1 ∨ (p.1 = q.1∧p.2 < q.2)
theorem square_rises (n:Nat):(square n).Pairwise ahead:=by
 unfold square
 rw [List.pairwise_flatMap]
 refine ⟨fun i _ => ?_,?_⟩
 ·
  rw [List.pairwise_map]
  exact List.pairwise_lt_range.imp fun h => Or.inr ⟨rfl,h⟩
 ·
  refine List.pairwise_lt_range.imp fun {i j} h x hx y hy => ?_
  obtain ⟨_,_,rfl⟩:=List.mem_map.1 hx
  obtain ⟨_,_,rfl⟩:=List.mem_map.1 hy
  exact Or.inl h
def IsLeast (n:Nat) (m:Nat→Nat→Bool) (l:List (Nat × Nat)):Option (Nat × Nat)→Prop
 | none => ∀ p ∈ l,m p.1 p.2 = false
 | some q => q ∈ l∧m q.1 q.2 = true∧∀ p ∈ l,m p.1 p.2 = true→cost n m q.1 q.2 < cost n m p.1 p.2 ∨ (cost n m q.1 q.2 = cost n m p.1 p.2∧(q = p ∨ ahead q p))
theorem least_step (n:Nat) (m:Nat→Nat→Bool) (l:List (Nat × Nat)) (p:Nat × Nat) (o:Option (Nat × Nat)) (hp:∀ q ∈ l,ahead q p) (h:IsLeast n m l o):IsLeast n m (l ++ [p]) (less n m o p):=by
 unfold less
 by_cases hm:m p.1 p.2 = true
 ·
  rw [if_pos hm]
  cases o with
  | none =>
   refine ⟨List.mem_append_right _ (List.mem_singleton.2 rfl),hm,fun x hx hxm => ?_⟩
   rcases List.mem_append.1 hx with hx | hx
   ·
    rw [h x hx] at hxm; cases hxm
   ·
    rw [List.mem_singleton.1 hx]; exact Or.inr ⟨rfl,Or.inl rfl⟩
  | some q =>
   obtain ⟨h1,h2,h3⟩:=h
   show IsLeast n m (l ++ [p]) (if cost n m p.1 p.2 < cost n m q.1 q.2 then some p else some q)
   by_cases hc:cost n m p.1 p.2 < cost n m q.1 q.2
   ·
    rw [if_pos hc]
    refine ⟨List.mem_append_right _ (List.mem_singleton.2 rfl),hm,fun x hx hxm => ?_⟩
    rcases List.mem_append.1 hx with hx | hx
    ·
     have:=h3 x hx hxm
     left
     omega
    ·
     rw [List.mem_singleton.1 hx]; exact Or.inr ⟨rfl,Or.inl rfl⟩
   ·
    rw [if_neg hc]
    refine ⟨List.mem_append_left _ h1,h2,fun x hx hxm => ?_⟩
    rcases List.mem_append.1 hx with hx | hx
    ·
     exact h3 x hx hxm
    ·
     rw [List.mem_singleton.1 hx]
     by_cases he:cost n m q.1 q.2 = cost n m p.1 p.2
     ·
      exact Or.inr ⟨he,Or.inr (hp q h1)⟩
     ·
      left; omega
 ·
  rw [if_neg hm]
  cases o with
  | none =>
   intro x hx
   rcases List.mem_append.1 hx with hx | hx
   ·
    exact h x hx
   ·
    rw [List.mem_singleton.1 hx]; simpa using hm
  | some q =>
   obtain ⟨h1,h2,h3⟩:=h
   refine ⟨List.mem_append_left _ h1,h2,fun x hx hxm => ?_⟩
   rcases List.mem_append.1 hx with hx | hx
   ·
    exact h3 x hx hxm
   ·
    rw [List.mem_singleton.1 hx] at hxm; exact absurd hxm hm
theorem least_all (n:Nat) (m:Nat→Nat→Bool) (l':List (Nat × Nat)):∀ (l:List (Nat × Nat)) (o:Option (Nat × Nat)),(l ++ l').Pairwise ahead→IsLeast n m l o→IsLeast n m (l ++ l') (l'.foldl (less n m) o):=by
 induction l' with
 | nil => intro l o _ h; rw [List.append_nil]; exact h
 | cons p t ih =>
  intro l o hw h
  have h1:l ++ p :: t = (l ++ [p]) ++ t:=by simp
  rw [h1] at hw ⊢
  rw [List.foldl_cons]
  refine ih _ _ hw (least_step n m l p o (fun q hq => ?_) h)
  rw [List.append_assoc,List.pairwise_append] at hw
  exact hw.2.2 q hq p (List.mem_cons_self ..)
theorem best_least (n:Nat) (m:Nat→Nat→Bool):IsLeast n m (square n) (bestOf n m) :=
 least_all n m (square n) [] none (square_rises n) (fun p hp => by cases hp)
theorem best_some {n:Nat} {m:Nat→Nat→Bool} {r c:Nat}:bestOf n m = some (r,c) ↔ IsBest n m r c:=by
 have hb:=best_least n m
 constructor
 ·
  intro h
  rw [h] at hb
  obtain ⟨h1,h2,h3⟩:=hb
  have h4:=mem_square.1 h1
  refine ⟨h4.1,h4.2,h2,fun i k hi hk hm => ?_⟩
  rcases h3 (i,k) (mem_square.2 ⟨hi,hk⟩) hm with h5 | ⟨h5,h6⟩
  ·
   exact Or.inl h5
  ·
   refine Or.inr ⟨h5,?_⟩
   rcases h6 with h6 | h6 | ⟨h6,h7⟩
   ·
    simp only [Prod.mk.injEq] at h6
    omega
   ·
    exact Or.inl h6
   ·
    exact Or.inr ⟨h6,by have:c < k:=h7; omega⟩
 ·
  intro h
  cases hq:bestOf n m with
  | none =>
   rw [hq] at hb
   have:=hb (r,c) (mem_square.2 ⟨h.row,h.col⟩)
   rw [h.isin] at this
   cases this
  | some q =>
   rw [hq] at hb
   obtain ⟨h1,h2,h3⟩:=hb
   have h4:=mem_square.1 h1
   have h5:IsBest n m q.1 q.2:=⟨h4.1,h4.2,h2,fun i k hi hk hm => by
    rcases h3 (i,k) (mem_square.2 ⟨hi,hk⟩) hm with h5 | ⟨h5,h6⟩
    ·
     exact Or.inl h5
    ·
     refine Or.inr ⟨h5,?_⟩
     rcases h6 with h6 | h6 | ⟨h6,h7⟩
     ·
      rw [h6]; exact Or.inr ⟨rfl,Nat.le_refl _⟩
     ·
      exact Or.inl h6
     ·
      exact Or.inr ⟨h6,Nat.le_of_lt h7⟩⟩
   obtain ⟨e1,e2⟩:=h.unique h5
   rw [e1,e2]
theorem best_none {n:Nat} {m:Nat→Nat→Bool}:bestOf n m = none ↔ ∀ i k,i < n→k < n→m i k = false:=by
 have hb:=best_least n m
 constructor
 ·
  intro h i k hi hk
  rw [h] at hb
  exact hb (i,k) (mem_square.2 ⟨hi,hk⟩)
 ·
  intro h
  cases hq:bestOf n m with
  | none => rfl
  | some q =>
   rw [hq] at hb
   have h4:=mem_square.1 hb.1
   have:=hb.2.1
   rw [h _ _ h4.1 h4.2] at this
   cases this
/- The order. -/
def orderL (n:Nat):Nat→(Nat→Nat→Bool)→List (Nat × Nat)
 | 0,_ => []
 | k + 1,m => match bestOf n m with
  | none => []
  | some q => q :: orderL n k (elim m q.1 q.2)
def leftL (m:Nat→Nat→Bool):List (Nat × Nat)→Nat→Nat→Bool
 | [] => m
 | q :: t => leftL (elim m q.1 q.2) t
def fitsL (n:Nat) (m:Nat→Nat→Bool):List (Nat × Nat)→Prop
 | [] => True
 | q :: t => q.1 < n∧q.2 < n∧m q.1 q.2 = true∧fitsL n (elim m q.1 q.2) t
def fillL (n:Nat) (m:Nat→Nat→Bool):List (Nat × Nat)→Nat
 | [] => 0
 | q :: t => fillC n m q.1 q.2 + fillL n (elim m q.1 q.2) t
def live (n:Nat) (m:Nat→Nat→Bool):List Nat:=(List.range n).filter fun i => (List.range n).any (m i)
/- Turned: an order fits,and has the same fill. -/
/- A forest: points in a row,each hangs on one earlier point at most. -/
structure Forest (n:Nat) (m:Nat→Nat→Bool):Prop where
 row:∀ i k k',i < n→k < n→k' < n→m i k = true→m i k' = true→2 * k + 1 < 2 * i→2 * k' + 1 < 2 * i→k = k'
 col:∀ i i' k,i < n→i' < n→k < n→m i k = true→m i' k = true→2 * i < 2 * k + 1→2 * i' < 2 * k + 1→i = i'
theorem Forest.sub {n:Nat} {m m':Nat→Nat→Bool} (h:Forest n m) (hs:∀ i k,i < n→k < n→m' i k = true→m i k = true):Forest n m' :=
 ⟨fun i k k' hi hk hk' h1 h2 => h.row i k k' hi hk hk' (hs _ _ hi hk h1) (hs _ _ hi hk' h2),fun i i' k hi hi' hk h1 h2 => h.col i i' k hi hi' hk (hs _ _ hi hk h1) (hs _ _ hi' hk h2)⟩
end Sp
end Go.Proofs.YtdcgdpbgnijnpaaGreat

namespace Go.Proofs.YtdcgdpbgnijnpaaGreat
namespace Ba
def leftR (ps:List (Nat × Nat)) (i:Nat):Bool:=!(ps.map Prod.fst).contains i
def leftC (ps:List (Nat × Nat)) (k:Nat):Bool:=!(ps.map Prod.snd).contains k
theorem leftR_iff {ps:List (Nat × Nat)} {i:Nat}:leftR ps i = true ↔ i ∉ ps.map Prod.fst:=by
 unfold leftR
 simp
theorem leftC_iff {ps:List (Nat × Nat)} {i:Nat}:leftC ps i = true ↔ i ∉ ps.map Prod.snd:=by
 unfold leftC
 simp
def wideZ (limbs:Nat) (z:Int):Bool:=decide (4294967296 ^ limbs≤z.natAbs)
def wideM (n limbs:Nat) (m:Nat→Nat→Int) (ps:List (Nat × Nat)):Bool:=(List.range n).any fun i => (List.range n).any fun k => leftR ps i && (leftC ps k && wideZ limbs (m i k))
def nz (m:Nat→Nat→Int) (ps:List (Nat × Nat)):Nat→Nat→Bool:=fun i k => leftR ps i && (leftC ps k && decide (m i k ≠ 0))
def facGo (n limbs:Nat) (M:Nat→Nat→Int):Nat→List (Nat × Nat)→List (Nat × Nat) × Int
 | 0,ps => if wideM n limbs (stg M ps) ps = true then (ps,13) else (ps,0)
 | fuel + 1,ps => if wideM n limbs (stg M ps) ps = true then (ps,13) else match Sp.bestOf n (nz (stg M ps) ps) with
  | none => (ps,140)
  | some p => facGo n limbs M fuel (ps ++ [p])
def facS (n limbs:Nat) (M:Nat→Nat→Int):List (Nat × Nat) × Int:=facGo n limbs M n []
structure Fits (n:Nat) (M:Nat→Nat→Int) (ps:List (Nat × Nat)):Prop where
 piv:pivs M 1 ps
 rows:(ps.map Prod.fst).Nodup
 cols:(ps.map Prod.snd).Nodup
 lt:∀ p ∈ ps,p.1 < n∧p.2 < n
theorem Fits.nil (n:Nat) (M:Nat→Nat→Int):Fits n M []:=⟨trivial,List.nodup_nil,List.nodup_nil,fun p hp => by cases hp⟩
theorem Fits.snoc {n:Nat} {M:Nat→Nat→Int} {ps:List (Nat × Nat)} (h:Fits n M ps) {p:Nat × Nat} (hp:Sp.bestOf n (nz (stg M ps) ps) = some p):Fits n M (ps ++ [p])∧stg M ps p.1 p.2 ≠ 0∧p.1 ∉ ps.map Prod.fst∧p.2 ∉ ps.map Prod.snd:=by
 have hb:=Sp.best_some.1 (show Sp.bestOf n (nz (stg M ps) ps) = some (p.1,p.2) from hp)
 have hi:=hb.isin
 unfold nz at hi
 simp only [Bool.and_eq_true,decide_eq_true_eq] at hi
 have h1:=leftR_iff.1 hi.1
 have h2:=leftC_iff.1 hi.2.1
 have h3:=hi.2.2
 refine ⟨⟨(pivs_snoc ps p M 1).2 ⟨h.piv,h3⟩,?_,?_,?_⟩,h3,h1,h2⟩
 ·
  rw [List.map_append,List.nodup_append]
  exact ⟨h.rows,by simp,fun a ha b hb => by simp at hb; rw [hb]; exact fun e => h1 (by rw [← e]; exact ha)⟩
 ·
  rw [List.map_append,List.nodup_append]
  exact ⟨h.cols,by simp,fun a ha b hb => by simp at hb; rw [hb]; exact fun e => h2 (by rw [← e]; exact ha)⟩
 ·
  intro q hq
  rcases List.mem_append.1 hq with hq | hq
  ·
   exact h.lt q hq
  ·
   rw [List.mem_singleton.1 hq]; exact ⟨hb.row,hb.col⟩
theorem fac_go {n limbs:Nat} {M:Nat→Nat→Int}:∀ (fuel:Nat) (ps:List (Nat × Nat)),ps.length + fuel = n→Fits n M ps→∃ qs e,facGo n limbs M fuel ps = (qs,e)∧Fits n M qs∧((e = 0∧qs.length = n∧wideM n limbs (stg M qs) qs = false) ∨ (e = 140∧qs.length < n∧wideM n limbs (stg M qs) qs = false∧∀ i k,i < n→k < n→i ∉ qs.map Prod.fst→k ∉ qs.map Prod.snd→stg M qs i k = 0) ∨ (e = 13∧qs.length≤n∧wideM n limbs (stg M qs) qs = true)):=by
 intro fuel
 induction fuel with
 | zero =>
  intro ps hl hf
  unfold facGo
  cases hw:wideM n limbs (stg M ps) ps with
  | true => rw [if_pos rfl]; exact ⟨ps,13,rfl,hf,Or.inr (Or.inr ⟨rfl,by omega,hw⟩)⟩
  | false => rw [if_neg (by decide)]; exact ⟨ps,0,rfl,hf,Or.inl ⟨rfl,by omega,hw⟩⟩
 | succ fuel ih =>
  intro ps hl hf
  unfold facGo
  cases hw:wideM n limbs (stg M ps) ps with
  | true => rw [if_pos rfl]; exact ⟨ps,13,rfl,hf,Or.inr (Or.inr ⟨rfl,by omega,hw⟩)⟩
  | false =>
   rw [if_neg (by decide)]
   cases hb:Sp.bestOf n (nz (stg M ps) ps) with
   | none =>
    refine ⟨ps,140,rfl,hf,Or.inr (Or.inl ⟨rfl,by omega,hw,fun i k hi hk h1 h2 => ?_⟩)⟩
    have:=Sp.best_none.1 hb i k hi hk
    unfold nz at this
    rw [leftR_iff.2 h1,leftC_iff.2 h2,Bool.true_and,Bool.true_and,decide_eq_false_iff_not] at this
    exact Classical.byContradiction this
   | some p => exact ih (ps ++ [p]) (by rw [List.length_append]; simp; omega) (hf.snoc hb).1
theorem fac_is {n limbs:Nat} {M:Nat→Nat→Int}:∃ qs e,facS n limbs M = (qs,e)∧Fits n M qs∧((e = 0∧qs.length = n∧wideM n limbs (stg M qs) qs = false) ∨ (e = 140∧qs.length < n∧wideM n limbs (stg M qs) qs = false∧∀ i k,i < n→k < n→i ∉ qs.map Prod.fst→k ∉ qs.map Prod.snd→stg M qs i k = 0) ∨ (e = 13∧qs.length≤n∧wideM n limbs (stg M qs) qs = true)) :=
 fac_go n [] (by simp) (Fits.nil n M)
/- The determinant,but for its sign,is what the pivots say. -/
theorem rest_perm {n:Nat} {l:List Nat} (hn:l.Nodup) (hl:∀ a ∈ l,a < n):(l ++ (List.range n).filter fun a => !l.contains a).Perm (List.range n):=by
 rw [List.perm_ext_iff_of_nodup ?_ List.nodup_range]
 ·
  intro a
  rw [List.mem_append,List.mem_filter,List.mem_range]
  constructor
  ·
   rintro (h | h)
   ·
    exact hl a h
   ·
    exact h.1
  ·
   intro h
   by_cases e:a ∈ l
   ·
    exact Or.inl e
   ·
    exact Or.inr ⟨h,by simpa using e⟩
 ·
  rw [List.nodup_append]
  refine ⟨hn,List.Pairwise.filter _ List.nodup_range,fun a ha b hb e => ?_⟩
  have:=(List.mem_filter.1 hb).2
  subst e
  simp at this
  exact this ha
theorem det_range (n:Nat) (N:Nat→Nat→Rat):det (List.range n).length (fun a b => N ((List.range n).getD a 0) b) = det n N:=by
 rw [List.length_range]
 refine det_congr fun i j hi _ => ?_
 rw [List.getD_eq_getElem?_getD,List.getElem?_range hi]
 rfl
theorem det_perm2 {n:Nat} {l l':List Nat} (h:l.Perm (List.range n)) (h':l'.Perm (List.range n)):∃ s:Rat,(s = 1 ∨ s = -1)∧∀ N:Nat→Nat→Rat,det n (fun a b => N (l.getD a 0) (l'.getD b 0)) = s * det n N:=by
 obtain ⟨s1,e1,f1⟩:=det_perm h
 obtain ⟨s2,e2,f2⟩:=det_perm h'
 have hl:l.length = n:=by have:=h.length_eq; rwa [List.length_range] at this
 have hl':l'.length = n:=by have:=h'.length_eq; rwa [List.length_range] at this
 refine ⟨s1 * s2,?_,fun N => ?_⟩
 ·
  rcases e1 with rfl | rfl <;> rcases e2 with rfl | rfl <;> grind
 ·
  have g1:=f1 (fun i j => N i (l'.getD j 0))
  rw [hl,det_range n (fun i j => N i (l'.getD j 0))] at g1
  have g2:=f2 (fun j i => N i j)
  rw [hl',det_range n (fun j i => N i j)] at g2
  have e3:det n (fun i j => N i (l'.getD j 0)) = det n (fun a b => N b (l'.getD a 0)):=by rw [← det_tp]; rfl
  have e4:det n (fun j i => N i j) = det n N:=det_tp n N
  rw [g1,e3,g2,e4]
  grind
def rowsO (n:Nat) (ps:List (Nat × Nat)):List Nat:=ps.map Prod.fst ++ (List.range n).filter fun a => !(ps.map Prod.fst).contains a
def colsO (n:Nat) (ps:List (Nat × Nat)):List Nat:=ps.map Prod.snd ++ (List.range n).filter fun a => !(ps.map Prod.snd).contains a
theorem Fits.perms {n:Nat} {M:Nat→Nat→Int} {ps:List (Nat × Nat)} (h:Fits n M ps):(rowsO n ps).Perm (List.range n)∧(colsO n ps).Perm (List.range n) :=
 ⟨rest_perm h.rows fun a ha => by obtain ⟨p,hp,rfl⟩:=List.mem_map.1 ha; exact (h.lt p hp).1,rest_perm h.cols fun a ha => by obtain ⟨p,hp,rfl⟩:=List.mem_map.1 ha; exact (h.lt p hp).2⟩
theorem Fits.len {n:Nat} {M:Nat→Nat→Int} {ps:List (Nat × Nat)} (h:Fits n M ps):ps.length≤n:=by
 have:=h.perms.1.length_eq
 unfold rowsO at this
 rw [List.length_append,List.length_map,List.length_range] at this
 omega
theorem Fits.det {n:Nat} {M:Nat→Nat→Int} {ps:List (Nat × Nat)} (h:Fits n M ps):∃ s:Rat,(s = 1 ∨ s = -1)∧(lastP M ps:Rat) * Ba.det (n - ps.length) (fun a b => gauss (cast M) ps ((rowsO n ps).getD (ps.length + a) 0) ((colsO n ps).getD (ps.length + b) 0)) = s * Ba.det n (cast M):=by
 obtain ⟨s,hs,f⟩:=det_perm2 h.perms.1 h.perms.2
 refine ⟨s,hs,?_⟩
 have hl:=h.len
 have hat:∀ a,a < ps.length→(rowsO n ps).getD a 0 = rowAt ps a∧(colsO n ps).getD a 0 = colAt ps a:=by
  intro a ha
  unfold rowsO colsO rowAt colAt
  constructor
  ·
   rw [List.getD_eq_getElem?_getD,List.getElem?_append_left (by rw [List.length_map]; exact ha),List.getElem?_map,List.getD_eq_getElem?_getD,List.getElem?_eq_getElem ha]
   rfl
  ·
   rw [List.getD_eq_getElem?_getD,List.getElem?_append_left (by rw [List.length_map]; exact ha),List.getElem?_map,List.getD_eq_getElem?_getD,List.getElem?_eq_getElem ha]
   rfl
 have hd:=det_pivots ps (cast M) (fun a => (rowsO n ps).getD a 0) (fun a => (colsO n ps).getD a 0) (n - ps.length) (stg_bar h.piv).ok hat
 rw [show ps.length + (n - ps.length) = n by omega,← last_prod h.piv] at hd
 rw [← f (cast M),hd]
end Ba
end Go.Proofs.YtdcgdpbgnijnpaaGreat

namespace Go.Proofs.YtdcgdpbgnijnpaaGreat
namespace Sp
def wd:Nat→(Nat→Bool)→Nat
 | 0,_ => 0
 | k + 1,f => wd k f + (if f k = true then 2 ^ k else 0)
theorem wd_lt (n:Nat) (f:Nat→Bool):wd n f < 2 ^ n:=by
 induction n with
 | zero => exact Nat.one_pos
 | succ n ih =>
  show wd n f + (if f n = true then 2 ^ n else 0) < 2 ^ (n + 1)
  rw [Nat.pow_succ]
  split <;> omega
theorem wd_bit (n:Nat) (f:Nat→Bool) (k:Nat):(wd n f).testBit k = (decide (k < n) && f k):=by
 induction n with
 | zero => show (0:Nat).testBit k = _; simp
 | succ n ih =>
  have hl:=wd_lt n f
  show (wd n f + (if f n = true then 2 ^ n else 0)).testBit k = _
  by_cases hf:f n = true
  ·
   rw [if_pos hf,Nat.add_comm]
   rcases Nat.lt_trichotomy k n with h | h | h
   ·
    rw [Nat.testBit_two_pow_add_gt h,ih,decide_eq_true h,decide_eq_true (by omega)]
   ·
    subst h
    rw [Nat.testBit_two_pow_add_eq,ih,hf,decide_eq_false (Nat.lt_irrefl _),decide_eq_true (Nat.lt_succ_self _)]
    rfl
   ·
    rw [Nat.testBit_lt_two_pow (Nat.lt_of_lt_of_le (show 2 ^ n + wd n f < 2 ^ (n + 1) by rw [Nat.pow_succ]; omega) (Nat.pow_le_pow_right (by omega) h)),decide_eq_false (by omega)]
    rfl
  ·
   rw [if_neg hf,Nat.add_zero,ih]
   rcases Nat.lt_trichotomy k n with h | h | h
   ·
    rw [decide_eq_true h,decide_eq_true (by omega)]
   ·
    subst h
    simp at hf
    rw [hf]; simp
   ·
    rw [decide_eq_false (by omega),decide_eq_false (by omega)]
theorem wd_ext {n x:Nat} {f:Nat→Bool} (hx:x < 2 ^ n) (h:∀ k,k < n→x.testBit k = f k):x = wd n f:=by
 apply Nat.eq_of_testBit_eq
 intro k
 rw [wd_bit]
 by_cases hk:k < n
 ·
  rw [h k hk,decide_eq_true hk]; rfl
 ·
  rw [decide_eq_false hk,Nat.testBit_lt_two_pow (Nat.lt_of_lt_of_le hx (Nat.pow_le_pow_right (by omega) (by omega)))]; rfl
theorem wd_congr {n:Nat} {f g:Nat→Bool} (h:∀ k,k < n→f k = g k):wd n f = wd n g:=by
 refine wd_ext (wd_lt n f) fun k hk => ?_
 rw [wd_bit,decide_eq_true hk,h k hk]; rfl
theorem wd_zero (n:Nat):wd n (fun _ => false) = 0:=by
 induction n with
 | zero => rfl
 | succ n ih => show wd n _ + 0 = 0; rw [ih]
theorem wd_or (n:Nat) (f g:Nat→Bool):wd n f ||| wd n g = wd n (fun k => f k || g k):=by
 refine wd_ext (Nat.or_lt_two_pow (wd_lt n f) (wd_lt n g)) fun k hk => ?_
 rw [Nat.testBit_or,wd_bit,wd_bit,decide_eq_true hk]; rfl
theorem wd_bit1 {n c:Nat} (h:c < n):2 ^ c = wd n (fun k => decide (k = c)):=by
 refine wd_ext (Nat.pow_lt_pow_right (by omega) h) fun k hk => ?_
 rw [Nat.testBit_two_pow]
 by_cases e:k = c
 ·
  rw [decide_eq_true e,decide_eq_true e.symm]
 ·
  rw [decide_eq_false e,decide_eq_false (fun h => e h.symm)]
theorem wd_and1 {n c:Nat} (f:Nat→Bool) (h:c < n):wd n f &&& 2 ^ c = if f c = true then 2 ^ c else 0:=by
 apply Nat.eq_of_testBit_eq
 intro k
 rw [Nat.testBit_and,wd_bit,Nat.testBit_two_pow]
 by_cases e:c = k
 ·
  subst e
  rw [decide_eq_true h,decide_eq_true rfl]
  cases f c with
  | false => simp
  | true => simp
 ·
  rw [decide_eq_false e,Bool.and_false]
  split
  ·
   rw [Nat.testBit_two_pow,decide_eq_false e]
  ·
   simp
theorem wd_not {n:Nat} (hn:n≤64) (f g:Nat→Bool):wd n f &&& (18446744073709551616 - (wd n g + 1)) = wd n (fun k => f k && !g k):=by
 have hg:wd n g < 18446744073709551616:=Nat.lt_of_lt_of_le (wd_lt n g) (Nat.pow_le_pow_right (n:=2) (by omega) hn)
 refine wd_ext (Nat.lt_of_le_of_lt Nat.and_le_left (wd_lt n f)) fun k hk => ?_
 rw [Nat.testBit_and,wd_bit,Nat.testBit_two_pow_sub_succ (n:=64) hg,wd_bit,decide_eq_true hk,decide_eq_true (by omega)]
 rfl
theorem wd_u64 {n:Nat} (hn:n≤64) (f:Nat→Bool):wd n f < 18446744073709551616:=Nat.lt_of_lt_of_le (wd_lt n f) (Nat.pow_le_pow_right (n:=2) (by omega) hn)
/- How many bits: of bytes,then of words. -/
def bitsC (x k:Nat):Nat:=((List.range k).filter x.testBit).length
theorem bitsC_split (x k:Nat):bitsC x (8 + k) = bitsC (x % 256) 8 + bitsC (x / 256) k:=by
 unfold bitsC
 rw [List.range_add,List.filter_append,List.length_append,List.filter_map,List.length_map]
 congr 2
 ·
  refine List.filter_congr fun i hi => ?_
  rw [show (256:Nat) = 2 ^ 8 from rfl,Nat.testBit_mod_two_pow,decide_eq_true (List.mem_range.1 hi)]; rfl
 ·
  refine List.filter_congr fun i _ => ?_
  show x.testBit (8 + i) = (x / 256).testBit i
  rw [show (256:Nat) = 2 ^ 8 from rfl,Nat.testBit_div_two_pow,Nat.add_comm]
theorem bitsC_wd {n k:Nat} (h:n≤k) (f:Nat→Bool):bitsC (wd n f) k = ((List.range n).filter f).length:=by
 obtain ⟨d,rfl⟩:∃ d,k = n + d:=⟨k - n,by omega⟩
 unfold bitsC
 rw [List.range_add,List.filter_append,List.length_append,List.filter_map,List.length_map]
 rw [show (List.range n).filter (wd n f).testBit = (List.range n).filter f from List.filter_congr fun i hi => by rw [wd_bit,decide_eq_true (List.mem_range.1 hi)]; rfl]
 rw [show (List.range d).filter ((wd n f).testBit ∘ (n + ·)) = [] from List.filter_eq_nil_iff.2 fun i _ => by show ¬ (wd n f).testBit (n + i) = true; rw [wd_bit,decide_eq_false (by omega)]; simp]
 rfl
/- Masks,byte by byte. -/
theorem and_byte (a b x y:Nat) (ha:a < 256) (hb:b < 256):(a + 256 * x) &&& (b + 256 * y) = (a &&& b) + 256 * (x &&& y):=by
 have e:∀ c z,c < 256→∀ k,(c + 256 * z).testBit k = if k < 8 then c.testBit k else z.testBit (k - 8):=by
  intro c z hc k
  have:=Nat.testBit_two_pow_mul_add z (i:=8) hc k
  rw [show (2:Nat) ^ 8 = 256 from rfl,Nat.add_comm] at this
  exact this
 apply Nat.eq_of_testBit_eq
 intro k
 rw [Nat.testBit_and,e a x ha,e b y hb,e (a &&& b) (x &&& y) (Nat.lt_of_le_of_lt Nat.and_le_left ha)]
 split <;> rw [Nat.testBit_and]
def mask (b:Nat):Nat→Nat
 | 0 => 0
 | k + 1 => b + 256 * mask b k
def st1 (k x:Nat):Nat:=(x / 2 &&& mask 85 k) + (x &&& mask 85 k)
def st2 (k x:Nat):Nat:=(x / 4 &&& mask 51 k) + (x &&& mask 51 k)
def st3 (k x:Nat):Nat:=(x / 16 + x) &&& mask 15 k
def cbytes:Nat→Nat→Nat
 | 0,_ => 0
 | k + 1,x => bitsC (x % 256) 8 + 256 * cbytes k (x / 256)
def s1 (b:Nat):Nat:=(b / 2 &&& 85) + (b &&& 85)
def s2 (b:Nat):Nat:=(b / 4 &&& 51) + (b &&& 51)
theorem s1_lt:∀ b,b < 256→s1 b < 256:=by decide +kernel
theorem s2_lt:∀ b,b < 256→s2 (s1 b) < 256∧s2 (s1 b) % 16≤4∧s2 (s1 b) / 16≤4:=by decide +kernel
theorem s3_is:∀ b,b < 256→(s2 (s1 b) / 16 + s2 (s1 b)) % 16 = bitsC b 8:=by decide +kernel
theorem h85:∀ b,b < 256→∀ p,p < 2→(b / 2 + 128 * p) &&& 85 = b / 2 &&& 85:=by decide +kernel
theorem h51:∀ b,b < 256→∀ p,p < 4→(b / 4 + 64 * p) &&& 51 = b / 4 &&& 51:=by decide +kernel
theorem and15 (x:Nat):x &&& 15 = x % 16:=Nat.and_two_pow_sub_one_eq_mod x 4
theorem st1_step (k b y:Nat) (hb:b < 256):st1 (k + 1) (b + 256 * y) = s1 b + 256 * st1 k y:=by
 have e:(b + 256 * y) / 2 = (b / 2 + 128 * (y % 2)) + 256 * (y / 2):=by omega
 unfold st1
 show ((b + 256 * y) / 2 &&& (85 + 256 * mask 85 k)) + ((b + 256 * y) &&& (85 + 256 * mask 85 k)) = _
 rw [e,and_byte _ _ _ _ (by omega) (by omega),and_byte _ _ _ _ hb (by omega),h85 b hb _ (by omega)]
 unfold s1
 omega
theorem st2_step (k b y:Nat) (hb:b < 256):st2 (k + 1) (b + 256 * y) = s2 b + 256 * st2 k y:=by
 have e:(b + 256 * y) / 4 = (b / 4 + 64 * (y % 4)) + 256 * (y / 4):=by omega
 unfold st2
 show ((b + 256 * y) / 4 &&& (51 + 256 * mask 51 k)) + ((b + 256 * y) &&& (51 + 256 * mask 51 k)) = _
 rw [e,and_byte _ _ _ _ (by omega) (by omega),and_byte _ _ _ _ hb (by omega),h51 b hb _ (by omega)]
 unfold s2
 omega
theorem st12 (k:Nat):∀ x,x < 256 ^ k→st2 k (st1 k x) % 16≤4∧st3 k (st2 k (st1 k x)) = cbytes k x:=by
 induction k with
 | zero =>
  intro x hx
  have:x = 0:=by simpa using hx
  subst this
  exact ⟨by decide,rfl⟩
 | succ k ih =>
  intro x hx
  have hb:x % 256 < 256:=Nat.mod_lt _ (by omega)
  have hy:x / 256 < 256 ^ k:=by rw [Nat.pow_succ] at hx; omega
  obtain ⟨i1,i2⟩:=ih _ hy
  have ex:x = x % 256 + 256 * (x / 256):=by omega
  have e1:st1 (k + 1) x = s1 (x % 256) + 256 * st1 k (x / 256):=by
   conv => lhs; rw [ex]
   exact st1_step k _ _ hb
  have e2:st2 (k + 1) (st1 (k + 1) x) = s2 (s1 (x % 256)) + 256 * st2 k (st1 k (x / 256)):=by rw [e1]; exact st2_step k _ _ (s1_lt _ hb)
  have hs:=s2_lt _ hb
  have h3:=s3_is _ hb
  rw [e2]
  show _∧_ = bitsC (x % 256) 8 + 256 * cbytes k (x / 256)
  rw [← i2,← h3]
  generalize s2 (s1 (x % 256)) = c at hs ⊢
  unfold st3 at *
  generalize st2 k (st1 k (x / 256)) = z at i1 ⊢
  refine ⟨by omega,?_⟩
  have e3:(c + 256 * z) / 16 + (c + 256 * z) = (c / 16 + 16 * (z % 16) + c) + 256 * (z / 16 + z):=by omega
  rw [e3]
  show _ &&& (15 + 256 * mask 15 k) = _
  rw [and_byte _ _ _ _ (by omega) (by omega),and15]
  congr 1
  omega
theorem bitsC_le (x k:Nat):bitsC x k≤k:=by
 have:=List.length_filter_le x.testBit (List.range k)
 rwa [List.length_range] at this
theorem adds8 (a b c d e f g h x:Nat) (ha:a≤8) (hb:b≤8) (hc:c≤8) (hd:d≤8) (he:e≤8) (hf:f≤8) (hg:g≤8) (hh:h≤8) (hx:x = a + 256 * (b + 256 * (c + 256 * (d + 256 * (e + 256 * (f + 256 * (g + 256 * h)))))))
  (y z u:Nat) (hy:y = x + x / 256) (hz:z = y + y / 65536) (hu:u = z + z / 4294967296):y < 18446744073709551616∧z < 18446744073709551616∧u < 9223372036854775808∧u % 128 = a + b + c + d + e + f + g + h:=by
 have e1:y = (a + b) + 256 * ((b + c) + 256 * ((c + d) + 256 * ((d + e) + 256 * ((e + f) + 256 * ((f + g) + 256 * ((g + h) + 256 * h)))))):=by omega
 clear hy hx
 have e2:z = (a + b + c + d) + 256 * ((b + c + d + e) + 256 * ((c + d + e + f) + 256 * ((d + e + f + g) + 256 * ((e + f + g + h) + 256 * ((f + g + h) + 256 * ((g + h) + 256 * h)))))):=by omega
 have e3:y < 18446744073709551616:=by omega
 clear hz e1
 have e4:u = (a + b + c + d + e + f + g + h) + 256 * ((b + c + d + e + f + g + h) + 256 * ((c + d + e + f + g + h) + 256 * ((d + e + f + g + h) + 256 * ((e + f + g + h) + 256 * ((f + g + h) + 256 * ((g + h) + 256 * h)))))):=by omega
 omega
theorem ones_is (x:Nat) (hx:x < 18446744073709551616) (p q r y z u:Nat) (hp:p = st1 8 x) (hq:q = st2 8 p) (hr:r = st3 8 q) (hy:y = r + r / 256) (hz:z = y + y / 65536) (hu:u = z + z / 4294967296) :
  r < 18446744073709551616∧y < 18446744073709551616∧z < 18446744073709551616∧u < 9223372036854775808∧u % 128 = bitsC x 64:=by
 have h:=(st12 8 x hx).2
 rw [← hp,← hq,← hr] at h
 have e:bitsC x 64 = bitsC (x % 256) 8 + (bitsC (x / 256 % 256) 8 + (bitsC (x / 256 / 256 % 256) 8 + (bitsC (x / 256 / 256 / 256 % 256) 8 + (bitsC (x / 256 / 256 / 256 / 256 % 256) 8 + (bitsC (x / 256 / 256 / 256 / 256 / 256 % 256) 8 + (bitsC (x / 256 / 256 / 256 / 256 / 256 / 256 % 256) 8 + bitsC (x / 256 / 256 / 256 / 256 / 256 / 256 / 256 % 256) 8)))))):=by
  rw [show 64 = 8 + 56 from rfl,bitsC_split,show 56 = 8 + 48 from rfl,bitsC_split,show 48 = 8 + 40 from rfl,bitsC_split,show 40 = 8 + 32 from rfl,bitsC_split,show 32 = 8 + 24 from rfl,bitsC_split,show 24 = 8 + 16 from rfl,bitsC_split,show 16 = 8 + 8 from rfl,bitsC_split]
  rw [show bitsC (x / 256 / 256 / 256 / 256 / 256 / 256 / 256) 8 = bitsC (x / 256 / 256 / 256 / 256 / 256 / 256 / 256 % 256) 8 by rw [Nat.mod_eq_of_lt (show x / 256 / 256 / 256 / 256 / 256 / 256 / 256 < 256 by omega)]]
 simp only [cbytes] at h
 have l0:=bitsC_le (x % 256) 8
 have l1:=bitsC_le (x / 256 % 256) 8
 have l2:=bitsC_le (x / 256 / 256 % 256) 8
 have l3:=bitsC_le (x / 256 / 256 / 256 % 256) 8
 have l4:=bitsC_le (x / 256 / 256 / 256 / 256 % 256) 8
 have l5:=bitsC_le (x / 256 / 256 / 256 / 256 / 256 % 256) 8
 have l6:=bitsC_le (x / 256 / 256 / 256 / 256 / 256 / 256 % 256) 8
 have l7:=bitsC_le (x / 256 / 256 / 256 / 256 / 256 / 256 / 256 % 256) 8
 rw [e]
 generalize bitsC (x % 256) 8 = a at *
 generalize bitsC (x / 256 % 256) 8 = b at *
 generalize bitsC (x / 256 / 256 % 256) 8 = c at *
 generalize bitsC (x / 256 / 256 / 256 % 256) 8 = d at *
 generalize bitsC (x / 256 / 256 / 256 / 256 % 256) 8 = e' at *
 generalize bitsC (x / 256 / 256 / 256 / 256 / 256 % 256) 8 = f at *
 generalize bitsC (x / 256 / 256 / 256 / 256 / 256 / 256 % 256) 8 = g at *
 generalize bitsC (x / 256 / 256 / 256 / 256 / 256 / 256 / 256 % 256) 8 = k at *
 have:=adds8 a b c d e' f g k r l0 l1 l2 l3 l4 l5 l6 l7 (by omega) y z u hy hz hu
 refine ⟨by omega,this.1,this.2.1,this.2.2.1,by omega⟩
end Sp
end Go.Proofs.YtdcgdpbgnijnpaaGreat

namespace Go.Proofs.YtdcgdpbgnijnpaaGreat
namespace Ba
def norm2 (n:Nat) (M:Nat→Nat→Int) (b:Nat→Int) (i:Nat):Rat:=sm n (fun k => cast M i k * cast M i k) + (b i:Rat) * (b i:Rat)
def norm1 (n:Nat) (M:Nat→Nat→Int) (b:Nat→Int) (i:Nat):Rat:=if norm2 n M b i = 0 then 1 else norm2 n M b i
def prL (f:Nat→Rat):List Nat→Rat
 | [] => 1
 | a :: t => f a * prL f t
end Ba
end Go.Proofs.YtdcgdpbgnijnpaaGreat

namespace Go.Proofs.YtdcgdpbgnijnpaaGreat
namespace Ba
def cmb (M:Nat→Nat→Rat) (j:Nat):List Rat→List Nat→Rat
 | x :: cs,r :: rs => x * M r j + cmb M j cs rs
 | _,_ => 0
end Ba
end Go.Proofs.YtdcgdpbgnijnpaaGreat
