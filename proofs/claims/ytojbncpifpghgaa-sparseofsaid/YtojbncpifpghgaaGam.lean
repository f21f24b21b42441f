/- Squares of bools in rows of their own; make of a row; append of one thing. Lists of lists of whole numbers in rows of their own. shuntref13.Price, has. shuntref13.Rest. shuntref13.Full. shuntref13.Choose. shuntref13.Thin. shuntref13's Cost, Best, Eliminate. shuntref13.Order. shuntref13.Fill. shuntref13.Same of equal lists; Copy. -/
import Derived.Test.YtojbncpifpghgaaGal
import Derived.Laws.MakeOwn
import Derived.Deep.DeepCutAuto
import Derived.Test.YtojbncpifpghgaaGaa
import Derived.Test.YtojbncpifpghgaaGag
namespace Go.Proofs.Ytojbncpifpghgaa
open Go.RowKit
open V (RowL RowL.alloc RowL.lt RowL.cell RowL.fz RowL.kept RowL.block RowL.set RowL.far)
namespace Sp
theorem info_parts {t:TypeId} {x:Value} {s b:Nat} (h:(Try.prog.info? t).map (fun i => (i.zero,i.size,i.bytes)) = some (some x,s,b)):∃ i,Try.prog.info? t = some i∧i.zero = some x∧i.size = s∧i.bytes = b:=by
 cases hi:Try.prog.info? t with
 | none => rw [hi] at h; cases h
 | some i =>
  rw [hi] at h
  simp only [Option.map_some,Option.some.injEq,Prod.mk.injEq] at h
  exact ⟨i,rfl,h.1,h.2.1,h.2.2⟩
theorem info_i64:(Try.prog.info? 3).map (fun i => (i.zero,i.size,i.bytes)) = some (some (.int .i64 0),1,8):=by kernel_rfl
theorem info_ints:(Try.prog.info? 41).map (fun i => (i.zero,i.size,i.bytes)) = some (some (.slice none 0 0),1,24):=by kernel_rfl
theorem und_ints:Try.prog.underlying 41 = some (.slice 3):=by kernel_rfl
theorem und_intss:Try.prog.underlying 32 = some (.slice 41):=by kernel_rfl
theorem cell_new (w:World) (x:Value) (t:TypeId):∀ j u,([x]:List Value)[j]? = some u→(w.alloc (.cells #[x] t)).cell? ((⟨w.heap.size,0,none⟩:Addr).add j) = some u:=by
 intro j u hj
 match j,hj with
 | 0,hj => simp at hj; subst hj; simp [Addr.add]
def brow (n:Nat) (f:Nat→Bool):List Value:=(List.range n).map fun k => .bool (f k)
theorem brow_at {n k:Nat} {f:Nat→Bool} (h:k < n):(brow n f)[k]? = some (.bool (f k)):=by
 unfold brow
 rw [List.getElem?_map,List.getElem?_range h]
 rfl
theorem own_kept {w w':World} {B:Nat} {e:TypeId} {sz n:Nat} {v:Value} {xs:List Value} (h:w.ownsRow B e sz v n xs) (k:∀ b,v.ownBlock = some b→w'.heap[b]? = w.heap[b]?):w'.ownsRow B e sz v n xs:=by
 obtain ⟨h1,h2 | ⟨g,cap,cur,rfl,h3,h4,h5⟩⟩:=h
 ·
  exact ⟨h1,.inl h2⟩
 ·
  exact ⟨h1,.inr ⟨g,cap,cur,rfl,h3,(k g rfl).trans h4,h5⟩⟩
theorem own_keptK {w w':World} {B:Nat} {e:TypeId} {sz n:Nat} {v:Value} {xs:List Value} (h:w.ownsRow B e sz v n xs) (k:Kept w w'):w'.ownsRow B e sz v n xs:=own_kept h (fun b hb => k.block b (h.lt b hb).2)
theorem own_row {w:World} {B:Nat} {e t:TypeId} {sz n p m:Nat} {v:Value} {xs:List Value} {f:Nat→Value} (h:w.ownsRow B e sz v n xs) (h':w.rowIs p t m f) (hne:e ≠ t):v.ownBlock ≠ some p:=by
 intro hb
 obtain ⟨c,f,h1⟩:=Lib.ownsRow_kind h p hb
 obtain ⟨c',h2,_⟩:=h'
 rw [h1] at h2
 simp at h2
 exact hne h2.2.1
theorem own_shape {w:World} {B:Nat} {e:TypeId} {sz n:Nat} {v:Value} {xs:List Value} (h:w.ownsRow B e sz v n xs):∃ ao cap,v = .slice ao n cap:=by
 obtain ⟨_,⟨h2,h3⟩ | ⟨g,cap,cur,h2,_⟩⟩:=h
 ·
  exact ⟨none,0,by rw [h2,h3]⟩
 ·
  exact ⟨_,_,h2⟩
theorem own_cell {w:World} {B:Nat} {e:TypeId} {sz n:Nat} {v:Value} {xs:List Value} (h:w.ownsRow B e sz v n xs) (h0:0 < n):∃ g cap,v = .slice (some ⟨g,0,none⟩) n cap∧B≤g∧g < w.heap.size∧n≤cap∧(∀ j u,xs[j]? = some u→w.cell? ⟨g,j,none⟩ = some u)∧∀ j,w.frozen? ⟨g,j,none⟩ = false:=by
 obtain ⟨h1,⟨_,h3⟩ | ⟨g,cap,cur,h2,hB,hg,hn,_,hs,ht⟩⟩:=h
 ·
  omega
 ·
  have hlt:g < w.heap.size:=by
   rcases Nat.lt_or_ge g w.heap.size with hlt | hge
   ·
    exact hlt
   ·
    rw [Array.getElem?_eq_none hge] at hg; cases hg
  refine ⟨g,cap,h2,hB,hlt,hn,fun j u hj => ?_,fun j => by simp [World.frozen?,hg]⟩
  have hl:=(List.getElem?_eq_some_iff.1 hj).1
  rw [← ht,List.getElem?_take_of_lt (by omega),Array.getElem?_toList] at hj
  simp [World.cell?,hg,hj]
def MatU (B:Nat) (w:World) (v:Value) (n i:Nat) (m:Nat→Nat→Bool):Prop :=
 ∃ gs:List Nat,gs.length = i∧w.ownsRow B 999999 1 v i (gs.map fun g => .slice (some ⟨g,0,none⟩) n n)∧∀ j,j < i→B≤gs.getD j 0∧RowL 4 w (gs.getD j 0) (brow n (m j))
theorem MatU.nil (B:Nat) (w:World) (n:Nat) (m:Nat→Nat→Bool):MatU B w (.slice none 0 0) n 0 m:=⟨[],rfl,World.ownsRow_nil _ _ _ _,fun _ hj => absurd hj (Nat.not_lt_zero _)⟩
theorem MatU.kept {B:Nat} {w w':World} {v:Value} {n i:Nat} {m:Nat→Nat→Bool} (h:MatU B w v n i m) (k:Kept w w'):MatU B w' v n i m:=by
 obtain ⟨gs,h1,h2,h3⟩:=h
 exact ⟨gs,h1,own_keptK h2 k,fun j hj => ⟨(h3 j hj).1,(h3 j hj).2.kept k⟩⟩
theorem MatU.snoc {B:Nat} {w w':World} {v:Value} {n i g G cap:Nat} {m:Nat→Nat→Bool} (h:∃ gs:List Nat,gs.length = i∧w'.ownsRow B 999999 1 (.slice (some ⟨G,0,none⟩) (i + 1) cap) (i + 1) ((gs.map fun g => Value.slice (some ⟨g,0,none⟩) n n) ++ [.slice (some ⟨g,0,none⟩) n n])∧∀ j,j < i→B≤gs.getD j 0∧RowL 4 w (gs.getD j 0) (brow n (m j))) (hb:∀ p xs,RowL 4 w p xs→RowL 4 w' p xs) (hr:RowL 4 w g (brow n (m i))) (hB:B≤g) (hv:v = .slice (some ⟨G,0,none⟩) (i + 1) cap):MatU B w' v n (i + 1) m:=by
 obtain ⟨gs,h1,h2,h3⟩:=h
 subst hv
 refine ⟨gs ++ [g],by rw [List.length_append,h1]; rfl,by rw [List.map_append]; exact h2,fun j hj => ?_⟩
 by_cases e:j < i
 ·
  rw [List.getD_eq_getElem?_getD,List.getElem?_append_left (by omega),← List.getD_eq_getElem?_getD]
  exact ⟨(h3 j e).1,hb _ _ (h3 j e).2⟩
 ·
  obtain rfl:j = i:=by omega
  rw [List.getD_eq_getElem?_getD,List.getElem?_append_right (by omega),h1,Nat.sub_self]
  exact ⟨hB,hb _ _ hr⟩
theorem MatU.mat {B:Nat} {w:World} {v:Value} {n:Nat} {m:Nat→Nat→Bool} (h:MatU B w v n n m):MatR w v n m:=by
 obtain ⟨gs,h1,h2,h3⟩:=h
 by_cases h0:0 < n
 ·
  obtain ⟨g,cap,rfl,_,hg,_,hc,_⟩:=own_cell h2 h0
  refine ⟨_,_,rfl,fun _ => ⟨g,0,rfl,hg,fun i hi => ⟨gs.getD i 0,0,n,?_,(h3 i hi).2.lt,fun j hj => ?_⟩⟩⟩
  ·
   rw [Nat.zero_add]
   refine hc i _ ?_
   rw [List.getElem?_map,List.getD_eq_getElem?_getD,List.getElem?_eq_getElem (by omega)]
   rfl
  ·
   rw [Nat.zero_add]
   exact (h3 i hi).2.cell j _ (brow_at hj)
 ·
  obtain ⟨ao,cap,rfl⟩:=own_shape h2
  exact ⟨_,_,rfl,fun h => absurd h h0⟩
def mP (P:List (List Int)) (i k:Nat):Bool:=decide ((k:Int) ∈ P.getD i [])
theorem rowOk_mem {n:Nat}:∀ {l:List Int} {last:Int},rowOk n last l = true→∀ x ∈ l,last < x∧x < (n:Int):=by
 intro l
 induction l with
 | nil => intro last _ x hx; cases hx
 | cons y t ih =>
  intro last h x hx
  unfold rowOk at h
  simp only [Bool.and_eq_true,decide_eq_true_eq] at h
  rcases List.mem_cons.1 hx with rfl | hx
  ·
   exact h.1
  ·
   have:=ih h.2 x hx
   omega
theorem okP_row {P:List (List Int)} (h:okP P = true) {i:Nat} (hi:i < P.length):rowOk P.length (-1) (P.getD i []) = true:=by
 unfold okP at h
 rw [Bool.and_eq_true,List.all_eq_true] at h
 rw [List.getD_eq_getElem?_getD,List.getElem?_eq_getElem hi]
 exact h.2 _ (List.getElem_mem hi)
theorem okP_mem {P:List (List Int)} (h:okP P = true) {i:Nat} (hi:i < P.length):∀ x ∈ P.getD i [],0≤x∧x < (P.length:Int):=fun x hx => by
 have:=rowOk_mem (okP_row h hi) x hx
 omega
theorem okP_len {P:List (List Int)} (h:okP P = true):P.length≤48:=by
 unfold okP at h
 rw [Bool.and_eq_true,decide_eq_true_eq] at h
 exact h.1
theorem rowOk_long {n:Nat}:∀ {l:List Int} {last:Int},rowOk n last l = true→last < (n:Int)→(l.length:Int) + last < (n:Int):=by
 intro l
 induction l with
 | nil => intro last _ h; simpa using h
 | cons y t ih =>
  intro last h hl
  unfold rowOk at h
  simp only [Bool.and_eq_true,decide_eq_true_eq] at h
  have:=ih h.2 h.1.2
  rw [List.length_cons]
  omega
end Sp
end Go.Proofs.Ytojbncpifpghgaa

namespace Go.Proofs.Ytojbncpifpghgaa
open Go.RowKit
open V (RowL RowL.alloc RowL.lt RowL.cell RowL.fz RowL.kept RowL.block RowL.set RowL.far)
namespace Sp
theorem own_mono {w:World} {B B':Nat} {e:TypeId} {sz n:Nat} {v:Value} {xs:List Value} (h:w.ownsRow B e sz v n xs) (hB:B'≤B):w.ownsRow B' e sz v n xs:=by
 obtain ⟨h1,h2 | ⟨g,cap,cur,h2,h3,h4⟩⟩:=h
 ·
  exact ⟨h1,.inl h2⟩
 ·
  exact ⟨h1,.inr ⟨g,cap,cur,h2,by omega,h4⟩⟩
theorem own_apart {w:World} {B B':Nat} {e e':TypeId} {sz n sz' n':Nat} {v v':Value} {xs xs':List Value} (h:w.ownsRow B e sz v n xs) (h':w.ownsRow B' e' sz' v' n' xs') (hne:e ≠ e'):∀ b,v.ownBlock = some b→v'.ownBlock ≠ some b:=by
 intro b hb hb'
 obtain ⟨c,f,h1⟩:=Lib.ownsRow_kind h b hb
 obtain ⟨c',f',h2⟩:=Lib.ownsRow_kind h' b hb'
 rw [h1] at h2
 simp at h2
 exact hne h2.2.1
def OwnI (B:Nat) (w:World) (v:Value) (l:List Int):Prop:=w.ownsRow B 3 1 v l.length (l.map (Value.int .i64))
theorem OwnI.isl {B:Nat} {w:World} {v:Value} {l:List Int} (h:OwnI B w v l):ISl w v l:=by
 by_cases h0:0 < l.length
 ·
  obtain ⟨g,cap,rfl,_,hg,_,hc,_⟩:=own_cell h h0
  refine ⟨_,_,rfl,fun _ => ⟨g,0,rfl,hg,fun j hj => ?_⟩⟩
  rw [Nat.zero_add]
  exact hc _ _ (by simp [hj])
 ·
  obtain ⟨ao,cap,rfl⟩:=own_shape h
  exact ⟨_,_,rfl,fun h => absurd h h0⟩
theorem OwnI.snoc {B:Nat} {w:World} {v:Value} {l:List Int} {x:Int} (h:w.ownsRow B 3 1 v (l.length + 1) (l.map (Value.int .i64) ++ [.int .i64 x])):OwnI B w v (l ++ [x]):=by
 unfold OwnI
 rw [List.length_append,List.map_append]
 exact h
def PatU (B:Nat) (w:World) (v:Value) (P:List (List Int)):Prop :=
 ∃ hs:List Value,hs.length = P.length∧w.ownsRow B 41 1 v P.length hs∧∀ j,j < P.length→OwnI B w (hs.getD j undef) (P.getD j [])
theorem PatU.nil (B:Nat) (w:World):PatU B w (.slice none 0 0) []:=⟨[],rfl,World.ownsRow_nil _ _ _ _,fun _ hj => absurd hj (Nat.not_lt_zero _)⟩
theorem PatU.kept {B:Nat} {w w':World} {v:Value} {P:List (List Int)} (h:PatU B w v P) (k:Kept w w'):PatU B w' v P:=by
 obtain ⟨hs,h1,h2,h3⟩:=h
 exact ⟨hs,h1,own_keptK h2 k,fun j hj => own_keptK (h3 j hj) k⟩
theorem PatU.mono {B B':Nat} {w:World} {v:Value} {P:List (List Int)} (h:PatU B w v P) (hB:B'≤B):PatU B' w v P:=by
 obtain ⟨hs,h1,h2,h3⟩:=h
 exact ⟨hs,h1,own_mono h2 hB,fun j hj => own_mono (h3 j hj) hB⟩
theorem getD_snoc {α:Type} (l:List α) (x d:α) (j:Nat):(l ++ [x]).getD j d = if j < l.length then l.getD j d else if j = l.length then x else d:=by
 rw [List.getD_eq_getElem?_getD]
 by_cases h:j < l.length
 ·
  rw [if_pos h,List.getElem?_append_left h,← List.getD_eq_getElem?_getD]
 ·
  rw [if_neg h,List.getElem?_append_right (by omega)]
  by_cases e:j = l.length
  ·
   rw [if_pos e,e,Nat.sub_self]; rfl
  ·
   rw [if_neg e,List.getElem?_eq_none (by simp; omega)]; rfl
theorem PatU.snoc {B:Nat} {w w':World} {G cap:Nat} {P:List (List Int)} {hs:List Value} {x:Value} {l:List Int} (h1:hs.length = P.length) (h2:w'.ownsRow B 41 1 (.slice (some ⟨G,0,none⟩) (P.length + 1) cap) (P.length + 1) (hs ++ [x])) (h3:∀ j,j < P.length→OwnI B w (hs.getD j undef) (P.getD j [])) (hb:∀ v l,OwnI B w v l→OwnI B w' v l) (hx:OwnI B w x l):PatU B w' (.slice (some ⟨G,0,none⟩) (P.length + 1) cap) (P ++ [l]):=by
 refine ⟨hs ++ [x],by rw [List.length_append,List.length_append,h1]; rfl,by rw [List.length_append]; exact h2,fun j hj => ?_⟩
 rw [List.length_append] at hj
 have hj:j < P.length + 1:=hj
 rw [getD_snoc,getD_snoc,h1]
 by_cases e:j < P.length
 ·
  rw [if_pos e,if_pos e]
  exact hb _ _ (h3 j e)
 ·
  rw [if_neg e,if_neg e,if_pos (by omega),if_pos (by omega)]
  exact hb _ _ hx
theorem PatU.pat {B:Nat} {w:World} {v:Value} {P:List (List Int)} (h:PatU B w v P):PatR w v P:=by
 obtain ⟨hs,h1,h2,h3⟩:=h
 by_cases h0:0 < P.length
 ·
  obtain ⟨g,cap,rfl,_,hg,_,hc,_⟩:=own_cell h2 h0
  refine ⟨_,_,rfl,fun _ => ⟨g,0,rfl,hg,fun i hi => ?_⟩⟩
  obtain ⟨ra,rc,e⟩:=own_shape (h3 i hi)
  have h4:=(h3 i hi).isl
  rw [e] at h4
  refine ⟨ra,rc,?_,h4⟩
  rw [Nat.zero_add,← e]
  refine hc i _ ?_
  rw [List.getD_eq_getElem?_getD,List.getElem?_eq_getElem (by omega)]
  rfl
 ·
  obtain ⟨ao,cap,rfl⟩:=own_shape h2
  exact ⟨_,_,rfl,fun h => absurd h h0⟩
def thinR (m:Nat→Nat→Bool) (i k:Nat):List Int:=((List.range k).filter (m i)).map Int.ofNat
def thinP (n:Nat) (m:Nat→Nat→Bool) (i:Nat):List (List Int):=(List.range i).map fun i => thinR m i n
theorem thinR_step (m:Nat→Nat→Bool) (i k:Nat):thinR m i (k + 1) = if m i k = true then thinR m i k ++ [(k:Int)] else thinR m i k:=by
 unfold thinR
 rw [List.range_succ,List.filter_append,List.map_append,List.filter_cons]
 split <;> simp
theorem thinR_len (m:Nat→Nat→Bool) (i k:Nat):(thinR m i k).length≤k:=by
 unfold thinR
 have:=List.length_filter_le (m i) (List.range k)
 rw [List.length_range] at this
 rw [List.length_map]
 exact this
theorem thinP_step (n:Nat) (m:Nat→Nat→Bool) (i:Nat):thinP n m (i + 1) = thinP n m i ++ [thinR m i n]:=by
 unfold thinP
 rw [List.range_succ,List.map_append]
 rfl
theorem thinP_len (n:Nat) (m:Nat→Nat→Bool) (i:Nat):(thinP n m i).length = i:=by
 unfold thinP
 simp
end Sp
end Go.Proofs.Ytojbncpifpghgaa

namespace Go.Proofs.Ytojbncpifpghgaa
open Go.RowKit
namespace Sp
theorem cnt_succ (p:Nat→Bool) (i:Nat):((List.range (i + 1)).filter p).length = ((List.range i).filter p).length + (if p i = true then 1 else 0):=by
 rw [List.range_succ,List.filter_append,List.length_append]
 by_cases h:p i = true
 ·
  rw [if_pos h,List.filter_cons,if_pos h]; rfl
 ·
  rw [if_neg h,List.filter_cons,if_neg h]; rfl
theorem cnt_le (p:Nat→Bool) (i:Nat):((List.range i).filter p).length≤i:=by
 have:=List.length_filter_le p (List.range i)
 rwa [List.length_range] at this
def hasM (n:Nat) (m:Nat→Nat→Bool) (r k:Int):Bool:=decide (0≤r) && (decide (r < (n:Int)) && (decide (0≤k) && (decide (k < (n:Int)) && m r.toNat k.toNat)))
end Sp
end Go.Proofs.Ytojbncpifpghgaa

namespace Go.Proofs.Ytojbncpifpghgaa
open Go.RowKit
open V (RowL RowL.alloc RowL.lt RowL.cell RowL.fz RowL.kept RowL.block RowL.set RowL.far)
namespace Sp
def qF (m:Nat→Nat→Bool) (r c i:Nat):Nat→Bool:=fun k => !m i k && (m i c && m r k)
def eU (m:Nat→Nat→Bool) (r c i kk:Nat):Nat→Bool:=fun j => decide (j < kk) && (m i j || (m i c && m r j))
def fillU (n:Nat) (m:Nat→Nat→Bool) (r c i:Nat):Nat:=((List.range i).map fun i => ((List.range n).filter (qF m r c i)).length).sum
theorem fillU_step (n:Nat) (m:Nat→Nat→Bool) (r c i:Nat):fillU n m r c (i + 1) = fillU n m r c i + ((List.range n).filter (qF m r c i)).length:=by
 unfold fillU
 rw [List.range_succ,List.map_append,List.sum_append]
 simp
theorem fillU_all (n:Nat) (m:Nat→Nat→Bool) (r c:Nat):fillU n m r c n = fillC n m r c:=rfl
theorem qF_row (n:Nat) (m:Nat→Nat→Bool) (r c:Nat):((List.range n).filter (qF m r c r)).length = 0:=by
 rw [List.length_eq_zero_iff,List.filter_eq_nil_iff]
 intro k _
 unfold qF
 cases m r k <;> simp
end Sp
end Go.Proofs.Ytojbncpifpghgaa

namespace Go.Proofs.Ytojbncpifpghgaa
open Go.RowKit
open V (RowL RowL.alloc RowL.lt RowL.cell RowL.fz RowL.kept RowL.block RowL.set RowL.far)
namespace Sp
theorem take_mem {l:List Int} {k:Nat} (hk:k < l.length) (x:Int):x ∈ l.take (k + 1) ↔ x = l.getD k 0 ∨ x ∈ l.take k:=by
 rw [List.take_succ_eq_append_getElem hk,List.mem_append,List.mem_singleton,List.getD_eq_getElem?_getD,List.getElem?_eq_getElem hk]
 exact Or.comm
def mT (l:List Int) (k:Nat):Nat→Bool:=fun c => decide ((c:Int) ∈ l.take k)
theorem mT_step {l:List Int} {k x:Nat} (hk:k < l.length) (hx:l.getD k 0 = (x:Int)):(fun j => if j = x then true else mT l k j) = mT l (k + 1):=by
 funext j
 unfold mT
 by_cases e:j = x
 ·
  rw [if_pos e,e]
  exact (decide_eq_true ((take_mem hk _).2 (Or.inl hx.symm))).symm
 ·
  rw [if_neg e]
  rw [Bool.eq_iff_iff,decide_eq_true_eq,decide_eq_true_eq,take_mem hk,hx]
  constructor
  ·
   exact Or.inr
  ·
   rintro (h | h)
   ·
    exact absurd (by omega) e
   ·
    exact h
end Sp
end Go.Proofs.Ytojbncpifpghgaa

namespace Go.Proofs.Ytojbncpifpghgaa
open Go.RowKit
namespace Sp
def sqUp (n i k:Nat):List (Nat × Nat):=((List.range i).flatMap fun i => (List.range n).map fun k => (i,k)) ++ (List.range k).map fun k => (i,k)
def bestUp (n:Nat) (m:Nat→Nat→Bool) (i k:Nat):Option (Nat × Nat):=(sqUp n i k).foldl (less n m) none
theorem bestUp_step (n:Nat) (m:Nat→Nat→Bool) (i k:Nat):bestUp n m i (k + 1) = less n m (bestUp n m i k) (i,k):=by
 unfold bestUp sqUp
 rw [List.range_succ,List.map_append,← List.append_assoc,List.foldl_append]
 rfl
theorem bestUp_row (n:Nat) (m:Nat→Nat→Bool) (i:Nat):bestUp n m (i + 1) 0 = bestUp n m i n:=by
 unfold bestUp sqUp
 rw [List.range_succ,List.flatMap_append]
 simp
theorem bestUp_all (n:Nat) (m:Nat→Nat→Bool):bestUp n m n 0 = bestOf n m:=by
 unfold bestUp sqUp bestOf square
 simp
def rO (o:Option (Nat × Nat)):Nat:=match o with | none => 0 | some q => q.1
def cO (o:Option (Nat × Nat)):Nat:=match o with | none => 0 | some q => q.2
end Sp
end Go.Proofs.Ytojbncpifpghgaa

namespace Go.Proofs.Ytojbncpifpghgaa
open Go.RowKit
open V (RowL RowL.alloc RowL.lt RowL.cell RowL.fz RowL.kept RowL.block RowL.set RowL.far)
namespace Sp
end Sp
end Go.Proofs.Ytojbncpifpghgaa

namespace Go.Proofs.Ytojbncpifpghgaa
open Go.RowKit
namespace Sp
theorem MatU.shape {B:Nat} {w:World} {v:Value} {n i:Nat} {m:Nat→Nat→Bool} (h:MatU B w v n i m):∃ ao cap,v = .slice ao i cap:=by
 obtain ⟨gs,_,h2,_⟩:=h
 exact own_shape h2
theorem PatU.shape {B:Nat} {w:World} {v:Value} {P:List (List Int)} (h:PatU B w v P):∃ ao cap,v = .slice ao P.length cap:=by
 obtain ⟨gs,_,h2,_⟩:=h
 exact own_shape h2
def costS (P:List (List Int)) (r k:Int):Int × Int:=if okP P = true then (if hasM P.length (mP P) r k = true then (cost P.length (mP P) r.toNat k.toNat,0) else (0,1)) else (0,130)
def bestS (P:List (List Int)):Option (Nat × Nat):=if okP P = true then bestOf P.length (mP P) else none
def elimS (P:List (List Int)) (r k:Int):List (List Int) × Int:=if okP P = true then (if hasM P.length (mP P) r k = true then (thinP P.length (elim (mP P) r.toNat k.toNat) P.length,0) else ([],1)) else ([],130)
theorem hasM_in {n:Nat} {m:Nat→Nat→Bool} {r k:Int} (h:hasM n m r k = true):∃ r' k':Nat,r = (r':Int)∧k = (k':Int)∧r' < n∧k' < n∧m r' k' = true:=by
 unfold hasM at h
 simp only [Bool.and_eq_true,decide_eq_true_eq] at h
 obtain ⟨h1,h2,h3,h4,h5⟩:=h
 obtain ⟨r',rfl⟩:=Int.eq_ofNat_of_zero_le h1
 obtain ⟨k',rfl⟩:=Int.eq_ofNat_of_zero_le h3
 exact ⟨r',k',rfl,rfl,by omega,by omega,h5⟩
end Sp
end Go.Proofs.Ytojbncpifpghgaa

namespace Go.Proofs.Ytojbncpifpghgaa
open Go.RowKit
open V (RowL RowL.alloc RowL.lt RowL.cell RowL.fz RowL.kept RowL.block RowL.set RowL.far)
namespace Sp
theorem MatU.mono {B B':Nat} {w:World} {v:Value} {n i:Nat} {m:Nat→Nat→Bool} (h:MatU B w v n i m) (hB:B'≤B):MatU B' w v n i m:=by
 obtain ⟨gs,h1,h2,h3⟩:=h
 exact ⟨gs,h1,own_mono h2 hB,fun j hj => ⟨Nat.le_trans hB (h3 j hj).1,(h3 j hj).2⟩⟩
theorem MatU.grown {B B':Nat} {w w':World} {v rv:Value} {n i len:Nat} {m:Nat→Nat→Bool} {xs:List Value} (h:MatU B w v n i m) (ho:w.ownsRow B' 3 1 rv len xs) (hg:w.grownBy w' rv.ownBlock):MatU B w' v n i m:=by
 obtain ⟨gs,h1,h2,h3⟩:=h
 refine ⟨gs,h1,own_kept h2 (fun b hb => hg.block b (World.ownsRow.lt h2 b hb).2 (fun e => own_apart h2 ho (by decide) b hb e.symm)),fun j hj => ⟨(h3 j hj).1,(h3 j hj).2.block (hg.block _ (h3 j hj).2.lt (fun e => own_row ho (h3 j hj).2 (by decide) e.symm))⟩⟩
theorem OwnI.grown {B:Nat} {w w':World} {v rv:Value} {l:List Int} (h:OwnI B w v l) (ha:∀ b,v.ownBlock = some b→rv.ownBlock ≠ some b) (hg:w.grownBy w' rv.ownBlock):OwnI B w' v l :=
 own_kept h (fun b hb => hg.block b (World.ownsRow.lt h b hb).2 (fun e => ha b hb e.symm))
def lenOf (v:Value):Nat:=match v with
 | .slice _ n _ => n
 | _ => 0
theorem lenOf_own {w:World} {B:Nat} {e:TypeId} {sz n:Nat} {v:Value} {xs:List Value} (h:w.ownsRow B e sz v n xs):lenOf v = n:=by
 obtain ⟨_,_,rfl⟩:=own_shape h
 rfl
def orderS (P:List (List Int)):List (Nat × Nat):=if okP P = true then orderL P.length P.length (mP P) else []
def fstI (l:List (Nat × Nat)):List Int:=l.map fun q => (q.1:Int)
def sndI (l:List (Nat × Nat)):List Int:=l.map fun q => (q.2:Int)
theorem orderL_none {n j:Nat} {m:Nat→Nat→Bool} (h:bestOf n m = none):orderL n j m = []:=by
 cases j with
 | zero => rfl
 | succ j => unfold orderL; rw [h]
theorem orderL_some {n j:Nat} {m:Nat→Nat→Bool} {q:Nat × Nat} (h:bestOf n m = some q) (hj:(live n m).length≤j):∃ j',orderL n j m = q :: orderL n j' (elim m q.1 q.2)∧(live n (elim m q.1 q.2)).length≤j'∧(live n (elim m q.1 q.2)).length < (live n m).length:=by
 have hq:=best_some.1 (show bestOf n m = some (q.1,q.2) from h)
 have hf:=live_falls hq.row hq.col hq.isin
 cases j with
 | zero => omega
 | succ j =>
  refine ⟨j,?_,by omega,hf⟩
  rw [orderL,h]
structure OrdI (B n:Nat) (m0:Nat→Nat→Bool) (w:World) (rv cv mv:Value) (dn:List (Nat × Nat)) (cur:Nat→Nat→Bool) (j:Nat):Prop where
 rows:OwnI B w rv (fstI dn)
 cols:OwnI B w cv (sndI dn)
 apart:∀ b,rv.ownBlock = some b→cv.ownBlock ≠ some b
 mat:MatU B w mv n n cur
 all:orderL n n m0 = dn ++ orderL n j cur
 enough:(live n cur).length≤j
 short:dn.length + (live n cur).length≤n
end Sp
end Go.Proofs.Ytojbncpifpghgaa

namespace Go.Proofs.Ytojbncpifpghgaa
open Go.RowKit
open V (RowL RowL.alloc RowL.lt RowL.cell RowL.fz RowL.kept RowL.block RowL.set RowL.far)
namespace Sp
def fillGo (n:Nat):(Nat→Nat→Bool)→List (Int × Int)→Nat→Int × Int
 | _,[],all => ((all:Int),0)
 | m,q :: t,all => if hasM n m q.1 q.2 = true then fillGo n (elim m q.1.toNat q.2.toNat) t (all + fillC n m q.1.toNat q.2.toNat) else (0,1)
def fillS (P:List (List Int)) (rows cols:List Int):Int × Int:=if okP P = true then (if rows.length = cols.length then fillGo P.length (mP P) (rows.zip cols) 0 else (0,5)) else (0,130)
theorem zip_at {rows cols:List Int} {i:Nat} (h:i < rows.length) (he:rows.length = cols.length):(rows.zip cols).drop i = (rows.getD i 0,cols.getD i 0) :: (rows.zip cols).drop (i + 1):=by
 rw [List.drop_eq_getElem_cons (by rw [List.length_zip]; omega),List.getElem_zip,List.getD_eq_getElem?_getD,List.getD_eq_getElem?_getD,List.getElem?_eq_getElem h,List.getElem?_eq_getElem (by omega)]
 rfl
theorem fillC_le (n:Nat) (m:Nat→Nat→Bool) (r c:Nat) (hn:n≤48):fillC n m r c≤2304:=by
 have key:∀ i,fillU n m r c i≤i * 48:=by
  intro i
  induction i with
  | zero => exact Nat.le_refl _
  | succ i ih =>
   rw [fillU_step]
   have:=cnt_le (qF m r c i) n
   omega
 have:=key n
 rw [fillU_all] at this
 omega
end Sp
end Go.Proofs.Ytojbncpifpghgaa

namespace Go.Proofs.Ytojbncpifpghgaa
open Go.RowKit
open V (RowL RowL.alloc RowL.lt RowL.cell RowL.fz RowL.kept RowL.block RowL.set RowL.far)
namespace Sp
set_option maxRecDepth 100000 in
set_option maxHeartbeats 8000000 in
theorem same_any (a1:Option Addr) (n c1:Nat) (a2:Option Addr) (c2:Nat) (P:List (List Int)) (w:World) (h1:PatR w (.slice a1 n c1) P) (h2:PatR w (.slice a2 n c2) P) (hn:n≤1000000) (hr:∀ l ∈ P,l.length≤1000000) :
  Calls Try.prog 7 #[.slice a1 n c1,.slice a2 n c2] w fun e w' => Kept w w'∧e = .returned (.bool true):=by
 have hl:=h1.len
 have HL:=hid (And.intro h1 (And.intro h2 (And.intro hl hr)))
 clear h1 h2 hl hr
 go_enter Try.func7,Try.ntmps7
 go_wp2_with fail
 go_loopw [5] (fun v5 wr => ∃ (i:Nat),i≤n∧v5 = .int .i64 (i:Int)∧Hid (Kept w wr)) (fun v5 _ => n - (intOf v5).toNat)
 case atStart => exact ⟨0,Nat.zero_le _,rfl,Kept.refl _⟩
 case round =>
  obtain ⟨i,hil,rfl,H⟩:=hrel
  generalize wr = w1 at H ⊢
  by_cases hit:i < n
  ·
   have hii:(i:Int) < (n:Int):=by omega
   have hi0:(0:Int)≤(i:Int):=by omega
   have hiL:i < P.length:=by have:=HL.out.2.2.1; omega
   obtain ⟨b1,o1,rfl,ra,rc,hc1,hI1⟩:=HL.out.1.row hiL
   obtain ⟨b2,o2,rfl,ka,kc,hc2,hI2⟩:=HL.out.2.1.row hiL
   have hlen:(P.getD i []).length≤1000000:=HL.out.2.2.2 _ (by rw [List.getD_eq_getElem?_getD,List.getElem?_eq_getElem hiL]; exact List.getElem_mem hiL)
   generalize P.getD i [] = row at hc1 hc2 hI1 hI2 hlen
   obtain ⟨rl,hrl⟩:∃ r,r = row.length:=⟨_,rfl⟩
   rw [← hrl] at hc1 hc2 hI1 hI2 hlen
   have HC:=hid (And.intro hc1 (And.intro hc2 (And.intro hI1 (And.intro hI2 hrl))))
   clear hc1 hc2 hI1 hI2 hrl
   go_upto_region 6 with fail
   have kd:=H.out.trans (Kept.refl w1).drew
   refine wp_region_held_drew (S:=fun w' => w'.cell? ⟨b1,o1 + i,none⟩ = some (.slice ra rl rc)∧w'.cell? ⟨b2,o2 + i,none⟩ = some (.slice ka rl kc)) (by kernel_rfl) ⟨HC.out.1 _ kd,HC.out.2.1 _ kd⟩ (fun hHeld => ?_)
   have HK:=hid kd
   generalize w1.drew = w2 at HK hHeld ⊢
   clear kd H
   refine tk 0 hHeld ?_
   refine tk 1 hHeld ?_
   refine tk 2 hHeld ?_
   refine tk 3 hHeld ?_
   refine tk 4 hHeld ?_
   refine tk 5 hHeld ?_
   refine tk 6 hHeld ?_
   refine tk 7 hHeld ?_
   refine tk 8 hHeld ?_
   refine tk 9 hHeld ?_
   refine tk 10 hHeld ?_
   refine _root_.Go.Proofs.Ytojbncpifpghgaa.dn ?_
   clear hHeld
   go_wp2_with fail
   --%A
   go_loopw [6] (fun v6 wr => ∃ (k:Nat),k≤rl∧v6 = .int .i64 (k:Int)∧Hid (Kept w wr)) (fun v6 _ => rl - (intOf v6).toNat)
   case atStart => exact ⟨0,Nat.zero_le _,rfl,HK.out⟩
   case round =>
    clear HK
    obtain ⟨k,hkl,rfl,H⟩:=hrel
    have e1:=HC.out.1 _ H.out
    by_cases hkt:k < rl
    ·
     have hkk:(k:Int) < (rl:Int):=by omega
     have hk0:(0:Int)≤(k:Int):=by omega
     have hkL:k < row.length:=by have:=HC.out.2.2.2.2; omega
     obtain ⟨p1,q1,rfl,hd1⟩:=HC.out.2.2.1.at hkL
     obtain ⟨p2,q2,rfl,hd2⟩:=HC.out.2.2.2.1.at hkL
     generalize row.getD k 0 = x at hd1 hd2
     have HX:=hid (And.intro hd1 hd2)
     clear hd1 hd2
     go_upto_region 11 with fail
     clear e1
     have kd:=H.out.trans (Kept.refl wr).drew
     refine wp_region_held_drew (S:=fun w' => w'.cell? ⟨b1,o1 + i,none⟩ = some (.slice (some ⟨p1,q1,none⟩) rl rc)∧w'.cell? ⟨b2,o2 + i,none⟩ = some (.slice (some ⟨p2,q2,none⟩) rl kc)∧w'.cell? ⟨p1,q1 + k,none⟩ = some (.int .i64 x)∧w'.cell? ⟨p2,q2 + k,none⟩ = some (.int .i64 x)) (by kernel_rfl) ⟨HC.out.1 _ kd,HC.out.2.1 _ kd,HX.out.1 _ kd,HX.out.2 _ kd⟩ (fun hHeld => ?_)
     have HK:=hid kd
     generalize wr.drew = w2 at HK hHeld ⊢
     clear kd H
     refine tk 0 hHeld ?_
     refine tk 1 hHeld ?_
     refine tk 2 hHeld ?_
     refine tk 3 hHeld ?_
     refine tk 4 hHeld ?_
     refine tk 5 hHeld ?_
     refine tk 6 hHeld ?_
     refine tk 7 hHeld ?_
     refine tk 8 hHeld ?_
     refine tk 9 hHeld ?_
     refine tk 10 hHeld ?_
     refine tk 11 hHeld ?_
     refine tk 12 hHeld ?_
     refine tk 13 hHeld ?_
     refine tk 14 hHeld ?_
     refine _root_.Go.Proofs.Ytojbncpifpghgaa.dn ?_
     clear hHeld
     go_wp2_with fail
     go_roundw
     case rel => exact ⟨k + 1,by omega,by go_num,HK.out⟩
     case measure => show rl - ((k:Int) + 1).toNat < rl - (k:Int).toNat; omega
    ·
     have hkk:¬ (k:Int) < (rl:Int):=by omega
     go_wp2_with fail
     go_roundw
     case rel => exact ⟨i + 1,by omega,by go_num,H.out⟩
     case measure => show n - ((i:Int) + 1).toNat < n - (i:Int).toNat; omega
  ·
   have hii:¬ (i:Int) < (n:Int):=by omega
   go_wp2_with fail
   go_ret
   exact ⟨H.out,rfl⟩
end Sp
end Go.Proofs.Ytojbncpifpghgaa
