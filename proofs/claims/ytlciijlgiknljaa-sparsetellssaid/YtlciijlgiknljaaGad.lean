/- Squares of bools in rows of their own; make of a row; append of one thing. Lists of lists of whole numbers in rows of their own. shuntref13.Price, has. shuntref13.Rest. shuntref13.Full. shuntref13.Choose. shuntref13.Thin. shuntref13's Cost, Best, Eliminate. -/
import Derived.Test.YtlciijlgiknljaaGac
import Derived.Laws.MakeOwn
import Derived.Deep.DeepCutAuto
import Derived.Test.YtlciijlgiknljaaGaa
namespace Go.Proofs.Ytlciijlgiknljaa
open Go.RowKit
open V (RowL RowL.alloc RowL.lt RowL.cell RowL.fz RowL.kept RowL.block RowL.set RowL.far)
namespace Sp
theorem info_parts {t:TypeId} {x:Value} {s b:Nat} (h:(Try.prog.info? t).map (fun i => (i.zero,i.size,i.bytes)) = some (some x,s,b)):∃ i,Try.prog.info? t = some i∧i.zero = some x∧i.size = s∧i.bytes = b:=by
 cases hi:Try.prog.info? t with
 | none => rw [hi] at h; cases h
 | some i =>
  rw [hi] at h
  simp only [Option.map_some,Option.some.injEq,Prod.mk.injEq] at h
  exact ⟨i,rfl,h.1,h.2.1,h.2.2⟩
theorem info_i64:(Try.prog.info? 3).map (fun i => (i.zero,i.size,i.bytes)) = some (some (.int .i64 0),1,8):=by kernel_rfl
theorem info_bool:(Try.prog.info? 4).map (fun i => (i.zero,i.size,i.bytes)) = some (some (.bool false),1,1):=by kernel_rfl
theorem info_bools:(Try.prog.info? 55).map (fun i => (i.zero,i.size,i.bytes)) = some (some (.slice none 0 0),1,24):=by kernel_rfl
theorem info_ints:(Try.prog.info? 41).map (fun i => (i.zero,i.size,i.bytes)) = some (some (.slice none 0 0),1,24):=by kernel_rfl
theorem und_ints:Try.prog.underlying 41 = some (.slice 3):=by kernel_rfl
theorem und_intss:Try.prog.underlying 22 = some (.slice 41):=by kernel_rfl
theorem und_bools:Try.prog.underlying 55 = some (.slice 4):=by kernel_rfl
theorem und_boolss:Try.prog.underlying 54 = some (.slice 55):=by kernel_rfl
theorem cell_new (w:World) (x:Value) (t:TypeId):∀ j u,([x]:List Value)[j]? = some u→(w.alloc (.cells #[x] t)).cell? ((⟨w.heap.size,0,none⟩:Addr).add j) = some u:=by
 intro j u hj
 match j,hj with
 | 0,hj => simp at hj; subst hj; simp [Addr.add]
def brow (n:Nat) (f:Nat→Bool):List Value:=(List.range n).map fun k => .bool (f k)
theorem brow_len (n:Nat) (f:Nat→Bool):(brow n f).length = n:=by unfold brow; simp
theorem brow_at {n k:Nat} {f:Nat→Bool} (h:k < n):(brow n f)[k]? = some (.bool (f k)):=by
 unfold brow
 rw [List.getElem?_map,List.getElem?_range h]
 rfl
theorem brow_set {n k:Nat} {f:Nat→Bool} (b:Bool):(brow n f).set k (.bool b) = brow n (fun j => if j = k then b else f j):=by
 apply List.ext_getElem?
 intro j
 by_cases hj:j < n
 ·
  rw [brow_at hj]
  by_cases e:j = k
  ·
   subst e
   rw [List.getElem?_set_self (by rw [brow_len]; exact hj),if_pos rfl]
  ·
   rw [List.getElem?_set_ne (fun h => e h.symm),brow_at hj,if_neg e]
 ·
  rw [List.getElem?_eq_none (by rw [List.length_set,brow_len]; omega),List.getElem?_eq_none (by rw [brow_len]; omega)]
theorem made_bools (n:Nat):madeCells (Value.bool false).cells (n * 1) = (brow n fun _ => false).toArray:=by
 apply Array.ext
 ·
  simp [madeCells,brow]
 ·
  intro i h1 h2
  simp [madeCells,brow,Value.cells]
  rw [Nat.mod_one]
  rfl
theorem make_bools {n:Nat} (hn:n≤1000000) (u:World):(Instr.makeSlice 55 (.int .i64 (n:Int)) (.int .i64 (n:Int))).run Try.prog u = .ok (.slice (some ⟨u.heap.size,0,none⟩) n n) (u.alloc (.cells (brow n fun _ => false).toArray 4)):=by
 obtain ⟨i0,hi,hz0,hz1,hz2⟩:=info_parts info_bool
 have h:=run_make (P:=Try.prog) u 55 4 i0 (.bool false) und_bools hi hz0 .i64 .i64 (n:Int) (n:Int) (by omega) (Int.le_refl _) (by rw [hz2]; omega) (by omega)
 rw [Int.toNat_natCast,hz1,made_bools] at h
 exact h
theorem own_kept {w w':World} {B:Nat} {e:TypeId} {sz n:Nat} {v:Value} {xs:List Value} (h:w.ownsRow B e sz v n xs) (k:∀ b,v.ownBlock = some b→w'.heap[b]? = w.heap[b]?):w'.ownsRow B e sz v n xs:=by
 obtain ⟨h1,h2 | ⟨g,cap,cur,rfl,h3,h4,h5⟩⟩:=h
 ·
  exact ⟨h1,.inl h2⟩
 ·
  exact ⟨h1,.inr ⟨g,cap,cur,rfl,h3,(k g rfl).trans h4,h5⟩⟩
theorem own_keptK {w w':World} {B:Nat} {e:TypeId} {sz n:Nat} {v:Value} {xs:List Value} (h:w.ownsRow B e sz v n xs) (k:Kept w w'):w'.ownsRow B e sz v n xs:=own_kept h (fun b hb => k.block b (h.lt b hb).2)
theorem own_row {w:World} {B:Nat} {e t:TypeId} {sz n p m:Nat} {v:Value} {xs:List Value} {f:Nat→Value} (h:w.ownsRow B e sz v n xs) (h':w.rowIs p t m f) (hne:e ≠ t):v.ownBlock ≠ some p:=by
 intro hb
 obtain ⟨c,f,h1⟩:=Lib.ownsRow_kind h p hb
 obtain ⟨c',h2,_⟩:=h'
 rw [h1] at h2
 simp at h2
 exact hne h2.2.1
theorem own_shape {w:World} {B:Nat} {e:TypeId} {sz n:Nat} {v:Value} {xs:List Value} (h:w.ownsRow B e sz v n xs):∃ ao cap,v = .slice ao n cap:=by
 obtain ⟨_,⟨h2,h3⟩ | ⟨g,cap,cur,h2,_⟩⟩:=h
 ·
  exact ⟨none,0,by rw [h2,h3]⟩
 ·
  exact ⟨_,_,h2⟩
theorem own_cell {w:World} {B:Nat} {e:TypeId} {sz n:Nat} {v:Value} {xs:List Value} (h:w.ownsRow B e sz v n xs) (h0:0 < n):∃ g cap,v = .slice (some ⟨g,0,none⟩) n cap∧B≤g∧g < w.heap.size∧n≤cap∧(∀ j u,xs[j]? = some u→w.cell? ⟨g,j,none⟩ = some u)∧∀ j,w.frozen? ⟨g,j,none⟩ = false:=by
 obtain ⟨h1,⟨_,h3⟩ | ⟨g,cap,cur,h2,hB,hg,hn,_,hs,ht⟩⟩:=h
 ·
  omega
 ·
  have hlt:g < w.heap.size:=by
   rcases Nat.lt_or_ge g w.heap.size with hlt | hge
   ·
    exact hlt
   ·
    rw [Array.getElem?_eq_none hge] at hg; cases hg
  refine ⟨g,cap,h2,hB,hlt,hn,fun j u hj => ?_,fun j => by simp [World.frozen?,hg]⟩
  have hl:=(List.getElem?_eq_some_iff.1 hj).1
  rw [← ht,List.getElem?_take_of_lt (by omega),Array.getElem?_toList] at hj
  simp [World.cell?,hg,hj]
def MatU (B:Nat) (w:World) (v:Value) (n i:Nat) (m:Nat→Nat→Bool):Prop :=
 ∃ gs:List Nat,gs.length = i∧w.ownsRow B 55 1 v i (gs.map fun g => .slice (some ⟨g,0,none⟩) n n)∧∀ j,j < i→B≤gs.getD j 0∧RowL 4 w (gs.getD j 0) (brow n (m j))
theorem MatU.nil (B:Nat) (w:World) (n:Nat) (m:Nat→Nat→Bool):MatU B w (.slice none 0 0) n 0 m:=⟨[],rfl,World.ownsRow_nil _ _ _ _,fun _ hj => absurd hj (Nat.not_lt_zero _)⟩
theorem MatU.kept {B:Nat} {w w':World} {v:Value} {n i:Nat} {m:Nat→Nat→Bool} (h:MatU B w v n i m) (k:Kept w w'):MatU B w' v n i m:=by
 obtain ⟨gs,h1,h2,h3⟩:=h
 exact ⟨gs,h1,own_keptK h2 k,fun j hj => ⟨(h3 j hj).1,(h3 j hj).2.kept k⟩⟩
theorem MatU.snoc {B:Nat} {w w':World} {v:Value} {n i g G cap:Nat} {m:Nat→Nat→Bool} (h:∃ gs:List Nat,gs.length = i∧w'.ownsRow B 55 1 (.slice (some ⟨G,0,none⟩) (i + 1) cap) (i + 1) ((gs.map fun g => Value.slice (some ⟨g,0,none⟩) n n) ++ [.slice (some ⟨g,0,none⟩) n n])∧∀ j,j < i→B≤gs.getD j 0∧RowL 4 w (gs.getD j 0) (brow n (m j))) (hb:∀ p xs,RowL 4 w p xs→RowL 4 w' p xs) (hr:RowL 4 w g (brow n (m i))) (hB:B≤g) (hv:v = .slice (some ⟨G,0,none⟩) (i + 1) cap):MatU B w' v n (i + 1) m:=by
 obtain ⟨gs,h1,h2,h3⟩:=h
 subst hv
 refine ⟨gs ++ [g],by rw [List.length_append,h1]; rfl,by rw [List.map_append]; exact h2,fun j hj => ?_⟩
 by_cases e:j < i
 ·
  rw [List.getD_eq_getElem?_getD,List.getElem?_append_left (by omega),← List.getD_eq_getElem?_getD]
  exact ⟨(h3 j e).1,hb _ _ (h3 j e).2⟩
 ·
  obtain rfl:j = i:=by omega
  rw [List.getD_eq_getElem?_getD,List.getElem?_append_right (by omega),h1,Nat.sub_self]
  exact ⟨hB,hb _ _ hr⟩
theorem MatU.mat {B:Nat} {w:World} {v:Value} {n:Nat} {m:Nat→Nat→Bool} (h:MatU B w v n n m):MatR w v n m:=by
 obtain ⟨gs,h1,h2,h3⟩:=h
 by_cases h0:0 < n
 ·
  obtain ⟨g,cap,rfl,_,hg,_,hc,_⟩:=own_cell h2 h0
  refine ⟨_,_,rfl,fun _ => ⟨g,0,rfl,hg,fun i hi => ⟨gs.getD i 0,0,n,?_,(h3 i hi).2.lt,fun j hj => ?_⟩⟩⟩
  ·
   rw [Nat.zero_add]
   refine hc i _ ?_
   rw [List.getElem?_map,List.getD_eq_getElem?_getD,List.getElem?_eq_getElem (by omega)]
   rfl
  ·
   rw [Nat.zero_add]
   exact (h3 i hi).2.cell j _ (brow_at hj)
 ·
  obtain ⟨ao,cap,rfl⟩:=own_shape h2
  exact ⟨_,_,rfl,fun h => absurd h h0⟩
def mP (P:List (List Int)) (i k:Nat):Bool:=decide ((k:Int) ∈ P.getD i [])
theorem rowOk_mem {n:Nat}:∀ {l:List Int} {last:Int},rowOk n last l = true→∀ x ∈ l,last < x∧x < (n:Int):=by
 intro l
 induction l with
 | nil => intro last _ x hx; cases hx
 | cons y t ih =>
  intro last h x hx
  unfold rowOk at h
  simp only [Bool.and_eq_true,decide_eq_true_eq] at h
  rcases List.mem_cons.1 hx with rfl | hx
  ·
   exact h.1
  ·
   have:=ih h.2 x hx
   omega
theorem okP_row {P:List (List Int)} (h:okP P = true) {i:Nat} (hi:i < P.length):rowOk P.length (-1) (P.getD i []) = true:=by
 unfold okP at h
 rw [Bool.and_eq_true,List.all_eq_true] at h
 rw [List.getD_eq_getElem?_getD,List.getElem?_eq_getElem hi]
 exact h.2 _ (List.getElem_mem hi)
theorem okP_mem {P:List (List Int)} (h:okP P = true) {i:Nat} (hi:i < P.length):∀ x ∈ P.getD i [],0≤x∧x < (P.length:Int):=fun x hx => by
 have:=rowOk_mem (okP_row h hi) x hx
 omega
theorem okP_len {P:List (List Int)} (h:okP P = true):P.length≤48:=by
 unfold okP at h
 rw [Bool.and_eq_true,decide_eq_true_eq] at h
 exact h.1
theorem rowOk_long {n:Nat}:∀ {l:List Int} {last:Int},rowOk n last l = true→last < (n:Int)→(l.length:Int) + last < (n:Int):=by
 intro l
 induction l with
 | nil => intro last _ h; simpa using h
 | cons y t ih =>
  intro last h hl
  unfold rowOk at h
  simp only [Bool.and_eq_true,decide_eq_true_eq] at h
  have:=ih h.2 h.1.2
  rw [List.length_cons]
  omega
end Sp
end Go.Proofs.Ytlciijlgiknljaa

namespace Go.Proofs.Ytlciijlgiknljaa
open Go.RowKit
open V (RowL RowL.alloc RowL.lt RowL.cell RowL.fz RowL.kept RowL.block RowL.set RowL.far)
namespace Sp
theorem own_mono {w:World} {B B':Nat} {e:TypeId} {sz n:Nat} {v:Value} {xs:List Value} (h:w.ownsRow B e sz v n xs) (hB:B'≤B):w.ownsRow B' e sz v n xs:=by
 obtain ⟨h1,h2 | ⟨g,cap,cur,h2,h3,h4⟩⟩:=h
 ·
  exact ⟨h1,.inl h2⟩
 ·
  exact ⟨h1,.inr ⟨g,cap,cur,h2,by omega,h4⟩⟩
theorem own_apart {w:World} {B B':Nat} {e e':TypeId} {sz n sz' n':Nat} {v v':Value} {xs xs':List Value} (h:w.ownsRow B e sz v n xs) (h':w.ownsRow B' e' sz' v' n' xs') (hne:e ≠ e'):∀ b,v.ownBlock = some b→v'.ownBlock ≠ some b:=by
 intro b hb hb'
 obtain ⟨c,f,h1⟩:=Lib.ownsRow_kind h b hb
 obtain ⟨c',f',h2⟩:=Lib.ownsRow_kind h' b hb'
 rw [h1] at h2
 simp at h2
 exact hne h2.2.1
def OwnI (B:Nat) (w:World) (v:Value) (l:List Int):Prop:=w.ownsRow B 3 1 v l.length (l.map (Value.int .i64))
theorem OwnI.isl {B:Nat} {w:World} {v:Value} {l:List Int} (h:OwnI B w v l):ISl w v l:=by
 by_cases h0:0 < l.length
 ·
  obtain ⟨g,cap,rfl,_,hg,_,hc,_⟩:=own_cell h h0
  refine ⟨_,_,rfl,fun _ => ⟨g,0,rfl,hg,fun j hj => ?_⟩⟩
  rw [Nat.zero_add]
  exact hc _ _ (by simp [hj])
 ·
  obtain ⟨ao,cap,rfl⟩:=own_shape h
  exact ⟨_,_,rfl,fun h => absurd h h0⟩
theorem OwnI.snoc {B:Nat} {w:World} {v:Value} {l:List Int} {x:Int} (h:w.ownsRow B 3 1 v (l.length + 1) (l.map (Value.int .i64) ++ [.int .i64 x])):OwnI B w v (l ++ [x]):=by
 unfold OwnI
 rw [List.length_append,List.map_append]
 exact h
def PatU (B:Nat) (w:World) (v:Value) (P:List (List Int)):Prop :=
 ∃ hs:List Value,hs.length = P.length∧w.ownsRow B 41 1 v P.length hs∧∀ j,j < P.length→OwnI B w (hs.getD j undef) (P.getD j [])
theorem PatU.nil (B:Nat) (w:World):PatU B w (.slice none 0 0) []:=⟨[],rfl,World.ownsRow_nil _ _ _ _,fun _ hj => absurd hj (Nat.not_lt_zero _)⟩
theorem PatU.kept {B:Nat} {w w':World} {v:Value} {P:List (List Int)} (h:PatU B w v P) (k:Kept w w'):PatU B w' v P:=by
 obtain ⟨hs,h1,h2,h3⟩:=h
 exact ⟨hs,h1,own_keptK h2 k,fun j hj => own_keptK (h3 j hj) k⟩
theorem PatU.mono {B B':Nat} {w:World} {v:Value} {P:List (List Int)} (h:PatU B w v P) (hB:B'≤B):PatU B' w v P:=by
 obtain ⟨hs,h1,h2,h3⟩:=h
 exact ⟨hs,h1,own_mono h2 hB,fun j hj => own_mono (h3 j hj) hB⟩
theorem getD_snoc {α:Type} (l:List α) (x d:α) (j:Nat):(l ++ [x]).getD j d = if j < l.length then l.getD j d else if j = l.length then x else d:=by
 rw [List.getD_eq_getElem?_getD]
 by_cases h:j < l.length
 ·
  rw [if_pos h,List.getElem?_append_left h,← List.getD_eq_getElem?_getD]
 ·
  rw [if_neg h,List.getElem?_append_right (by omega)]
  by_cases e:j = l.length
  ·
   rw [if_pos e,e,Nat.sub_self]; rfl
  ·
   rw [if_neg e,List.getElem?_eq_none (by simp; omega)]; rfl
theorem PatU.snoc {B:Nat} {w w':World} {G cap:Nat} {P:List (List Int)} {hs:List Value} {x:Value} {l:List Int} (h1:hs.length = P.length) (h2:w'.ownsRow B 41 1 (.slice (some ⟨G,0,none⟩) (P.length + 1) cap) (P.length + 1) (hs ++ [x])) (h3:∀ j,j < P.length→OwnI B w (hs.getD j undef) (P.getD j [])) (hb:∀ v l,OwnI B w v l→OwnI B w' v l) (hx:OwnI B w x l):PatU B w' (.slice (some ⟨G,0,none⟩) (P.length + 1) cap) (P ++ [l]):=by
 refine ⟨hs ++ [x],by rw [List.length_append,List.length_append,h1]; rfl,by rw [List.length_append]; exact h2,fun j hj => ?_⟩
 rw [List.length_append] at hj
 have hj:j < P.length + 1:=hj
 rw [getD_snoc,getD_snoc,h1]
 by_cases e:j < P.length
 ·
  rw [if_pos e,if_pos e]
  exact hb _ _ (h3 j e)
 ·
  rw [if_neg e,if_neg e,if_pos (by omega),if_pos (by omega)]
  exact hb _ _ hx
theorem PatU.pat {B:Nat} {w:World} {v:Value} {P:List (List Int)} (h:PatU B w v P):PatR w v P:=by
 obtain ⟨hs,h1,h2,h3⟩:=h
 by_cases h0:0 < P.length
 ·
  obtain ⟨g,cap,rfl,_,hg,_,hc,_⟩:=own_cell h2 h0
  refine ⟨_,_,rfl,fun _ => ⟨g,0,rfl,hg,fun i hi => ?_⟩⟩
  obtain ⟨ra,rc,e⟩:=own_shape (h3 i hi)
  have h4:=(h3 i hi).isl
  rw [e] at h4
  refine ⟨ra,rc,?_,h4⟩
  rw [Nat.zero_add,← e]
  refine hc i _ ?_
  rw [List.getD_eq_getElem?_getD,List.getElem?_eq_getElem (by omega)]
  rfl
 ·
  obtain ⟨ao,cap,rfl⟩:=own_shape h2
  exact ⟨_,_,rfl,fun h => absurd h h0⟩
def thinR (m:Nat→Nat→Bool) (i k:Nat):List Int:=((List.range k).filter (m i)).map Int.ofNat
def thinP (n:Nat) (m:Nat→Nat→Bool) (i:Nat):List (List Int):=(List.range i).map fun i => thinR m i n
theorem thinR_step (m:Nat→Nat→Bool) (i k:Nat):thinR m i (k + 1) = if m i k = true then thinR m i k ++ [(k:Int)] else thinR m i k:=by
 unfold thinR
 rw [List.range_succ,List.filter_append,List.map_append,List.filter_cons]
 split <;> simp
theorem thinR_len (m:Nat→Nat→Bool) (i k:Nat):(thinR m i k).length≤k:=by
 unfold thinR
 have:=List.length_filter_le (m i) (List.range k)
 rw [List.length_range] at this
 rw [List.length_map]
 exact this
theorem thinP_step (n:Nat) (m:Nat→Nat→Bool) (i:Nat):thinP n m (i + 1) = thinP n m i ++ [thinR m i n]:=by
 unfold thinP
 rw [List.range_succ,List.map_append]
 rfl
theorem thinP_len (n:Nat) (m:Nat→Nat→Bool) (i:Nat):(thinP n m i).length = i:=by
 unfold thinP
 simp
end Sp
end Go.Proofs.Ytlciijlgiknljaa

namespace Go.Proofs.Ytlciijlgiknljaa
open Go.RowKit
namespace Sp
theorem cnt_succ (p:Nat→Bool) (i:Nat):((List.range (i + 1)).filter p).length = ((List.range i).filter p).length + (if p i = true then 1 else 0):=by
 rw [List.range_succ,List.filter_append,List.length_append]
 by_cases h:p i = true
 ·
  rw [if_pos h,List.filter_cons,if_pos h]; rfl
 ·
  rw [if_neg h,List.filter_cons,if_neg h]; rfl
theorem cnt_le (p:Nat→Bool) (i:Nat):((List.range i).filter p).length≤i:=by
 have:=List.length_filter_le p (List.range i)
 rwa [List.length_range] at this
set_option maxRecDepth 100000 in
set_option maxHeartbeats 8000000 in
theorem price_any (ao:Option Addr) (n c:Nat) (m:Nat→Nat→Bool) (r k:Nat) (w:World) (h:MatR w (.slice ao n c) n m) (hn:n≤48) (hr:r < n) (hk:k < n) :
  Calls Try.prog 33 #[.slice ao n c,.int .i64 (r:Int),.int .i64 (k:Int)] w fun e w' => w' = w∧e = .returned (.int .i64 (cost n m r k)):=by
 obtain ⟨b,off,rfl,rb,ro,rc,hR,hRc⟩:=h.row hr
 have HL:=hid h
 have HR:=hid (And.intro hR hRc)
 have HZ:=hid (show cost n m r k = ((((List.range n).filter (m r)).length:Int) - 1) * ((((List.range n).filter fun i => m i k).length:Int) - 1) from rfl)
 generalize cost n m r k = z at HZ ⊢
 have hri:(r:Int) < (n:Int):=by omega
 have hr0:(0:Int)≤(r:Int):=by omega
 have hki:(k:Int) < (n:Int):=by omega
 have hk0:(0:Int)≤(k:Int):=by omega
 clear h hR hRc
 go_enter Try.func33,Try.ntmps33
 go_wp2_with fail
 go_loopw [7,8,9] (fun v7 v8 v9 wr => ∃ (i x y:Nat),i≤n∧v7 = .int .i64 (x:Int)∧v8 = .int .i64 (y:Int)∧v9 = .int .i64 (i:Int)∧x≤i∧y≤i∧wr = w∧Hid (x = ((List.range i).filter (m r)).length∧y = ((List.range i).filter fun i => m i k).length)) (fun _ _ v9 _ => n - (intOf v9).toNat)
 case atStart => exact ⟨0,0,0,Nat.zero_le _,rfl,rfl,rfl,Nat.le_refl _,Nat.le_refl _,rfl,rfl,rfl⟩
 case round =>
  obtain ⟨i,x,y,hil,rfl,rfl,rfl,hx,hy,rfl,H⟩:=hrel
  by_cases hit:i < n
  ·
   have hii:(i:Int) < (n:Int):=by omega
   have hi0:(0:Int)≤(i:Int):=by omega
   obtain ⟨b',off',e,qb,qo,qc,hQ,hQc⟩:=HL.out.row hit
   simp only [Option.some.injEq,Addr.mk.injEq,and_true] at e
   obtain ⟨rfl,rfl⟩:=e
   have c1:=HR.out.1 _ (Kept.refl _)
   have c2:=HR.out.2 i hit _ (Kept.refl _)
   have c3:=hQ _ (Kept.refl _)
   have c4:=hQc k hk _ (Kept.refl _)
   have HS:=hid (And.intro (cnt_succ (m r) i) (cnt_succ (fun i => m i k) i))
   clear hQ hQc
   --%A
   cases h1:m r i with
   | false =>
    cases h2:m i k with
    | false =>
     rw [h1] at c2
     rw [h2] at c4
     have HE:=hid (show x = ((List.range (i + 1)).filter (m r)).length∧y = ((List.range (i + 1)).filter fun i => m i k).length by rw [HS.out.1,HS.out.2,h1,h2,H.out.1,H.out.2]; exact ⟨rfl,rfl⟩)
     clear h1 h2 H HS
     go_wp2_with fail
     go_roundw
     case rel => exact ⟨i + 1,x,y,by omega,rfl,rfl,by go_num,by omega,by omega,by first | rfl | trivial,HE.out⟩
     case measure => show n - ((i:Int) + 1).toNat < n - (i:Int).toNat; omega
    | true =>
     rw [h1] at c2
     rw [h2] at c4
     have HE:=hid (show x = ((List.range (i + 1)).filter (m r)).length∧y + 1 = ((List.range (i + 1)).filter fun i => m i k).length by rw [HS.out.1,HS.out.2,h1,h2,H.out.1,H.out.2]; exact ⟨rfl,rfl⟩)
     clear h1 h2 H HS
     go_wp2_with fail
     go_roundw
     case rel => exact ⟨i + 1,x,y + 1,by omega,rfl,by go_num,by go_num,by omega,by omega,by first | rfl | trivial,HE.out⟩
     case measure => show n - ((i:Int) + 1).toNat < n - (i:Int).toNat; omega
   | true =>
    cases h2:m i k with
    | false =>
     rw [h1] at c2
     rw [h2] at c4
     have HE:=hid (show x + 1 = ((List.range (i + 1)).filter (m r)).length∧y = ((List.range (i + 1)).filter fun i => m i k).length by rw [HS.out.1,HS.out.2,h1,h2,H.out.1,H.out.2]; exact ⟨rfl,rfl⟩)
     clear h1 h2 H HS
     go_wp2_with fail
     go_roundw
     case rel => exact ⟨i + 1,x + 1,y,by omega,by go_num,rfl,by go_num,by omega,by omega,by first | rfl | trivial,HE.out⟩
     case measure => show n - ((i:Int) + 1).toNat < n - (i:Int).toNat; omega
    | true =>
     rw [h1] at c2
     rw [h2] at c4
     have HE:=hid (show x + 1 = ((List.range (i + 1)).filter (m r)).length∧y + 1 = ((List.range (i + 1)).filter fun i => m i k).length by rw [HS.out.1,HS.out.2,h1,h2,H.out.1,H.out.2]; exact ⟨rfl,rfl⟩)
     clear h1 h2 H HS
     go_wp2_with fail
     go_roundw
     case rel => exact ⟨i + 1,x + 1,y + 1,by omega,by go_num,by go_num,by go_num,by omega,by omega,by first | rfl | trivial,HE.out⟩
     case measure => show n - ((i:Int) + 1).toNat < n - (i:Int).toNat; omega
  ·
   have hii:¬ (i:Int) < (n:Int):=by omega
   obtain rfl:i = n:=by omega
   have hb1:((x:Int) - 1) * ((y:Int) - 1)≤2304:=by
    have h1:((x:Int) - 1) * ((y:Int) - 1)≤48 * 48:=by
     rcases Nat.eq_zero_or_pos x with h | h <;> rcases Nat.eq_zero_or_pos y with h' | h'
     ·
      subst h h'; decide
     ·
      subst h; have:(y:Int) - 1 ≥ 0:=by omega
      omega
     ·
      subst h'; omega
     ·
      exact Int.mul_le_mul (by omega) (by omega) (by omega) (by omega)
    omega
   have hb2:-48≤((x:Int) - 1) * ((y:Int) - 1):=by
    rcases Nat.eq_zero_or_pos x with h | h <;> rcases Nat.eq_zero_or_pos y with h' | h'
    ·
     subst h h'; decide
    ·
     subst h; omega
    ·
     subst h'; omega
    ·
     have:=Int.mul_nonneg (show (0:Int)≤(x:Int) - 1 by omega) (show (0:Int)≤(y:Int) - 1 by omega)
     omega
   have HE:=hid (show z = ((x:Int) - 1) * ((y:Int) - 1) by rw [HZ.out,← H.out.1,← H.out.2])
   go_wp2_with fail
   go_ret
   exact ⟨rfl,by rw [HE.out]; rfl⟩
def hasM (n:Nat) (m:Nat→Nat→Bool) (r k:Int):Bool:=decide (0≤r) && (decide (r < (n:Int)) && (decide (0≤k) && (decide (k < (n:Int)) && m r.toNat k.toNat)))
set_option maxRecDepth 100000 in
set_option maxHeartbeats 8000000 in
theorem has_any (ao:Option Addr) (n c:Nat) (m:Nat→Nat→Bool) (r k:Int) (w:World) (h:MatR w (.slice ao n c) n m) :
  Calls Try.prog 32 #[.slice ao n c,.int .i64 r,.int .i64 k] w fun e w' => w' = w∧e = .returned (.bool (hasM n m r k)):=by
 have HL:=hid h
 obtain ⟨z,hz⟩:∃ z,z = hasM n m r k:=⟨_,rfl⟩
 rw [← hz]
 have HZ:=hid hz
 clear h hz
 go_enter Try.func32,Try.ntmps32
 by_cases h1:0≤r
 ·
  by_cases h2:r < (n:Int)
  ·
   by_cases h3:0≤k
   ·
    by_cases h4:k < (n:Int)
    ·
     obtain ⟨r,rfl⟩:=Int.eq_ofNat_of_zero_le h1
     obtain ⟨k,rfl⟩:=Int.eq_ofNat_of_zero_le h3
     obtain ⟨b,off,rfl,rb,ro,rc,hR,hRc⟩:=HL.out.row (show r < n by omega)
     have c1:=hR _ (Kept.refl _)
     have c2:=hRc k (by omega) _ (Kept.refl _)
     have HE:=hid (show z = m r k by rw [HZ.out]; unfold hasM; rw [decide_eq_true h1,decide_eq_true h2,decide_eq_true h3,decide_eq_true h4]; rfl)
     clear hR hRc
     generalize m r k = y at c2 HE
     go_wp2_with fail
     go_ret
     exact ⟨rfl,by rw [HE.out]; rfl⟩
    ·
     have HE:=hid (show z = false by rw [HZ.out]; unfold hasM; rw [decide_eq_false h4]; simp)
     go_wp2_with fail
     go_ret
     exact ⟨rfl,by rw [HE.out]; rfl⟩
   ·
    have HE:=hid (show z = false by rw [HZ.out]; unfold hasM; rw [decide_eq_false h3]; simp)
    go_wp2_with fail
    go_ret
    exact ⟨rfl,by rw [HE.out]; rfl⟩
  ·
   have HE:=hid (show z = false by rw [HZ.out]; unfold hasM; rw [decide_eq_false h2]; simp)
   go_wp2_with fail
   go_ret
   exact ⟨rfl,by rw [HE.out]; rfl⟩
 ·
  have HE:=hid (show z = false by rw [HZ.out]; unfold hasM; rw [decide_eq_false h1]; simp)
  go_wp2_with fail
  go_ret
  exact ⟨rfl,by rw [HE.out]; rfl⟩
end Sp
end Go.Proofs.Ytlciijlgiknljaa

namespace Go.Proofs.Ytlciijlgiknljaa
open Go.RowKit
open V (RowL RowL.alloc RowL.lt RowL.cell RowL.fz RowL.kept RowL.block RowL.set RowL.far)
namespace Sp
def qF (m:Nat→Nat→Bool) (r c i:Nat):Nat→Bool:=fun k => !m i k && (m i c && m r k)
def eU (m:Nat→Nat→Bool) (r c i kk:Nat):Nat→Bool:=fun j => decide (j < kk) && (m i j || (m i c && m r j))
theorem eU_zero (m:Nat→Nat→Bool) (r c i:Nat):eU m r c i 0 = fun _ => false:=by
 funext j
 unfold eU
 rw [decide_eq_false (by omega)]
 rfl
theorem eU_step {m:Nat→Nat→Bool} {r c i kk:Nat} {b:Bool} (h:b = (m i kk || (m i c && m r kk))):(fun j => if j = kk then b else eU m r c i kk j) = eU m r c i (kk + 1):=by
 funext j
 unfold eU
 by_cases e:j = kk
 ·
  rw [if_pos e,e,decide_eq_true (by omega),Bool.true_and,h]
 ·
  rw [if_neg e]
  by_cases e2:j < kk
  ·
   rw [decide_eq_true e2,decide_eq_true (by omega)]
  ·
   rw [decide_eq_false e2,decide_eq_false (by omega)]
theorem brow_congr {n:Nat} {f g:Nat→Bool} (h:∀ j,j < n→f j = g j):brow n f = brow n g:=by
 unfold brow
 exact List.map_congr_left fun j hj => by rw [h j (List.mem_range.1 hj)]
theorem eU_end {n:Nat} {m:Nat→Nat→Bool} {r c i kk:Nat} (h:(i = r∧kk = 0) ∨ (i ≠ r∧kk = n)):∀ j,j < n→(if j = c then false else eU m r c i kk j) = elim m r c i j:=by
 intro j hj
 unfold elim eU
 rcases h with ⟨h1,h2⟩ | ⟨h1,h2⟩
 ·
  rw [h2,decide_eq_false (show ¬ j < 0 by omega),decide_eq_false (show ¬ i ≠ r by simpa using h1)]
  simp
 ·
  rw [h2,decide_eq_true hj,decide_eq_true h1]
  by_cases e:j = c
  ·
   rw [if_pos e,decide_eq_false (show ¬ j ≠ c by simpa using e)]
   rfl
  ·
   rw [if_neg e,decide_eq_true e]
   rfl
def fillU (n:Nat) (m:Nat→Nat→Bool) (r c i:Nat):Nat:=((List.range i).map fun i => ((List.range n).filter (qF m r c i)).length).sum
theorem fillU_step (n:Nat) (m:Nat→Nat→Bool) (r c i:Nat):fillU n m r c (i + 1) = fillU n m r c i + ((List.range n).filter (qF m r c i)).length:=by
 unfold fillU
 rw [List.range_succ,List.map_append,List.sum_append]
 simp
theorem fillU_all (n:Nat) (m:Nat→Nat→Bool) (r c:Nat):fillU n m r c n = fillC n m r c:=rfl
theorem qF_row (n:Nat) (m:Nat→Nat→Bool) (r c:Nat):((List.range n).filter (qF m r c r)).length = 0:=by
 rw [List.length_eq_zero_iff,List.filter_eq_nil_iff]
 intro k _
 unfold qF
 cases m r k <;> simp
set_option maxRecDepth 100000 in
set_option maxHeartbeats 8000000 in
theorem rest_any (ao:Option Addr) (n c:Nat) (m:Nat→Nat→Bool) (r k:Nat) (w:World) (h:MatR w (.slice ao n c) n m) (hn:n≤48) (hr:r < n) (hk:k < n) :
  Calls Try.prog 38 #[.slice ao n c,.int .i64 (r:Int),.int .i64 (k:Int)] w fun e w' => Kept w w'∧∃ v,e = .returned (.tuple #[v,.int .i64 (fillC n m r k:Int)])∧MatU w.heap.size w' v n n (elim m r k):=by
 have hmk:=make_bools (n:=n) (by omega)
 obtain ⟨i0,hi,hz0,hz1,hz2⟩:=info_parts info_bools
 obtain ⟨b,off,rfl,rb,ro,rc,hR,hRc⟩:=h.row hr
 have HL:=hid h
 have HRR:=hid (And.intro hR hRc)
 obtain ⟨z,hz⟩:∃ z,z = fillC n m r k:=⟨_,rfl⟩
 rw [← hz]
 have HZ:=hid hz
 have hri:(r:Int) < (n:Int):=by omega
 have hr0:(0:Int)≤(r:Int):=by omega
 have hki:(k:Int) < (n:Int):=by omega
 have hk0:(0:Int)≤(k:Int):=by omega
 clear h hz hR hRc
 go_enter Try.func38,Try.ntmps38
 go_wp2_with fail
 go_loopw [8,9,10] (fun v8 v9 v10 wr => ∃ (i:Nat) (bv:Value) (f:Nat),i≤n∧f≤i * 48∧v8 = bv∧v9 = .int .i64 (f:Int)∧v10 = .int .i64 (i:Int)∧Hid (Kept w wr∧MatU w.heap.size wr bv n i (elim m r k)∧f = fillU n m r k i)) (fun _ _ v10 _ => n - (intOf v10).toNat)
 case atStart => exact ⟨0,_,0,Nat.zero_le _,Nat.zero_le _,rfl,rfl,rfl,Kept.refl _,MatU.nil _ _ _ _,rfl⟩
 case round =>
  obtain ⟨i,bv,f0,hil,hf0,rfl,rfl,rfl,H⟩:=hrel
  generalize wr = w1 at H ⊢
  by_cases hit:i < n
  ·
   have hii:(i:Int) < (n:Int):=by omega
   have hi0:(0:Int)≤(i:Int):=by omega
   obtain ⟨b',off',e,qb,qo,qc,hQ,hQc⟩:=HL.out.row hit
   simp only [Option.some.injEq,Addr.mk.injEq,and_true] at e
   obtain ⟨rfl,rfl⟩:=e
   have HR:=hid (And.intro hQ hQc)
   clear hQ hQc
   have kA:=(Kept.refl w1).alloc (.cells (brow n fun _ => false).toArray 4)
   have rA:=RowL.alloc 4 w1 (brow n fun _ => false)
   go_upto_region 7 with fail
   --%B
   generalize w1.alloc (.cells (brow n fun _ => false).toArray 4) = W at kA rA ⊢
   obtain ⟨g,hg⟩:∃ q,q = w1.heap.size:=⟨_,rfl⟩
   rw [← hg] at rA ⊢
   have HG:=hid (And.intro (show g = w1.heap.size from hg) (show w1.heap.size < W.heap.size by have:=rA.lt; rw [hg] at this; exact this))
   rw [← eU_zero m r k i] at rA
   have HK:=hid (And.intro kA rA)
   clear kA rA hg
   go_wp2_with fail
   --%C
   go_loopw [9,12] (fun v9 v12 wr => ∃ (kk f:Nat),kk≤n∧f≤i * 48 + kk∧v9 = .int .i64 (f:Int)∧v12 = .int .i64 (kk:Int)∧(kk = 0 ∨ ¬ i = r)∧Hid (Kept w1 wr∧RowL 4 wr g (brow n (eU m r k i kk))∧f = f0 + ((List.range kk).filter (qF m r k i)).length)) (fun _ v12 _ => n - (intOf v12).toNat)
   case atStart => exact ⟨0,f0,Nat.zero_le _,by omega,rfl,rfl,Or.inl rfl,HK.out.1,HK.out.2,rfl⟩
   case round =>
    clear HK
    obtain ⟨kk,f,hkl,hf,rfl,rfl,hk0r,K⟩:=hrel
    by_cases hir:i = r
    ·
     --%I
     obtain rfl:kk = 0:=by omega
     have hrI:((i:Int) != (r:Int)) = false:=by simp [hir]
     have h0n:(0:Int) < (n:Int):=by omega
     have HEN:=hid (show (i = r∧(0:Nat) = 0) ∨ (i ≠ r∧(0:Nat) = n) from Or.inl ⟨hir,rfl⟩)
     have HFE:=hid (show f = fillU n m r k (i + 1) by rw [fillU_step,← H.out.2.2,hir,qF_row]; have:=K.out.2.2; simpa using this)
     clear hir
     have cK:=K.out.2.1.cell k _ (brow_at hk)
     have cz:=K.out.2.1.fz
     have kS:Kept w1 (wr.setCell ⟨g,k,none⟩ (.bool false)):=K.out.1.setCell (p:=⟨g,k,none⟩) (by rw [HG.out.1]; exact Nat.le_refl _) _
     have HK:=hid (And.intro kS (show RowL 4 _ g (brow n (elim m r k i)) by have:=K.out.2.1.set k (.bool false); rw [brow_set] at this; rw [← brow_congr (eU_end HEN.out)]; exact this))
     go_upto_region 14 with fail
     generalize wr.setCell ⟨g,k,none⟩ (.bool false) = w4 at HK ⊢
     obtain ⟨gs,hgl,hown,hrows⟩:=H.out.2.1.kept HK.out.1
     have HW:=hid (And.intro hgl (And.intro hown hrows))
     have hsz:w.heap.size≤w4.heap.size:=(H.out.1.trans HK.out.1).size
     clear hgl hown hrows cK cz kS
     --%F
     go_wp2_with (at_builtin; refine wpList_append_lies _ rfl (.tmp 80) (.tmp 82) 54 rfl w.heap.size 55 i0 (.slice none 0 0) 1 24 und_boolss hi hz0 hz1 hz2 rfl (by decide) u8 i (gs.map fun g => Value.slice (some ⟨g,0,none⟩) n n) rfl (by exact World.ownsRow.alloc HW.out.2.1 _) ⟨w4.heap.size,0,none⟩ 1 1 [.slice (some ⟨g,0,none⟩) n n] rfl rfl (cell_new w4 _ _) (fun u hu => by simp at hu; subst hu; rfl) (by omega) (by unfold maxLen; omega) (by omega) (by simp; omega) _ rfl ?_)
     intro G cap w5 hO hgr _ _
     have kA:=(Kept.refl w4).alloc (.cells #[.slice (some ⟨g,0,none⟩) n n] 55)
     have hOw:=World.ownsRow.alloc HW.out.2.1 (.cells #[.slice (some ⟨g,0,none⟩) n n] 55)
     generalize w4.alloc (.cells #[.slice (some ⟨g,0,none⟩) n n] 55) = W5 at kA hgr hOw
     have KW:Kept w w5:=Below.grown ((H.out.1.trans HK.out.1).trans kA) hgr ((H.out.1.trans HK.out.1).trans kA).size (fun k hk => (World.ownsRow.lt hOw k hk).1)
     have HB:=hid (fun (p:Nat) (xs:List Value) (hp:RowL 4 w4 p xs) => (hp.kept kA).block (hgr.block p (hp.kept kA).lt (fun e => own_row hOw (hp.kept kA) (by decide) e.symm)))
     have HQ:=hid (And.intro KW (MatU.snoc (w:=w4) (w':=w5) (g:=g) (m:=elim m r k) ⟨gs,HW.out.1,hO,HW.out.2.2⟩ HB.out HK.out.2 (show w.heap.size≤g by have h1:=HG.out.1; have h2:=H.out.1.size; omega) rfl))
     clear kA hOw hgr hO KW
     go_wp2_with fail
     go_roundw
     case rel => exact ⟨i + 1,_,f,by omega,by omega,rfl,rfl,by go_num,HQ.out.1,HQ.out.2,HFE.out⟩
     case measure => show n - ((i:Int) + 1).toNat < n - (i:Int).toNat; omega
    ·
     have hrI:((i:Int) != (r:Int)) = true:=by simp; omega
     by_cases hkt:kk < n
     ·
      have hkk:(kk:Int) < (n:Int):=by omega
      have hkk0:(0:Int)≤(kk:Int):=by omega
      have k0:=H.out.1.trans K.out.1
      have c1:=HR.out.1 _ k0
      have c2:=HR.out.2 kk hkt _ k0
      have c3:=HR.out.2 k hk _ k0
      have c4:=HRR.out.1 _ k0
      have c5:=HRR.out.2 kk hkt _ k0
      have c6:=K.out.2.1.cell kk _ (brow_at hkt)
      have cz:=K.out.2.1.fz
      clear k0
      cases ha:m i kk with
      | true =>
       have kS:Kept w1 (wr.setCell ⟨g,kk,none⟩ (.bool true)):=K.out.1.setCell (p:=⟨g,kk,none⟩) (by rw [HG.out.1]; exact Nat.le_refl _) _
       have kS2:=H.out.1.trans kS
       have d1:=HR.out.1 _ kS2
       have d2:=HR.out.2 kk hkt _ kS2
       have HE:=hid (show f = f0 + ((List.range (kk + 1)).filter (qF m r k i)).length by rw [cnt_succ,show qF m r k i kk = false by unfold qF; rw [ha]; rfl]; have:=K.out.2.2; rw [if_neg (by decide)]; omega)
       have HW:=hid (And.intro kS (show RowL 4 _ g (brow n (eU m r k i (kk + 1))) by have:=K.out.2.1.set kk (.bool true); rw [brow_set,eU_step (show (true:Bool) = (m i kk || (m i k && m r kk)) by rw [ha]; rfl)] at this; exact this))
       rw [ha] at c2 d2
       clear ha kS kS2
       --%S
       go_wp2_with fail
       go_roundw
       case rel => exact ⟨kk + 1,f,by omega,by omega,rfl,by go_num,Or.inr hir,HW.out.1,HW.out.2,HE.out⟩
       case measure => show n - ((kk:Int) + 1).toNat < n - (kk:Int).toNat; omega
      | false =>
       cases hb:m i k with
       | false =>
        have kS:Kept w1 (wr.setCell ⟨g,kk,none⟩ (.bool false)):=K.out.1.setCell (p:=⟨g,kk,none⟩) (by rw [HG.out.1]; exact Nat.le_refl _) _
        have kS2:=H.out.1.trans kS
        have d1:=HR.out.1 _ kS2
        have d2:=HR.out.2 kk hkt _ kS2
        have HE:=hid (show f = f0 + ((List.range (kk + 1)).filter (qF m r k i)).length by rw [cnt_succ,show qF m r k i kk = false by unfold qF; rw [ha,hb]; rfl]; have:=K.out.2.2; rw [if_neg (by decide)]; omega)
        have HW:=hid (And.intro kS (show RowL 4 _ g (brow n (eU m r k i (kk + 1))) by have:=K.out.2.1.set kk (.bool false); rw [brow_set,eU_step (show (false:Bool) = (m i kk || (m i k && m r kk)) by rw [ha,hb]; rfl)] at this; exact this))
        rw [ha] at c2 d2
        rw [hb] at c3
        clear hb ha kS kS2
        --%S
        go_wp2_with fail
        go_roundw
        case rel => exact ⟨kk + 1,f,by omega,by omega,rfl,by go_num,Or.inr hir,HW.out.1,HW.out.2,HE.out⟩
        case measure => show n - ((kk:Int) + 1).toNat < n - (kk:Int).toNat; omega
       | true =>
        cases hd:m r kk with
        | false =>
         have kS:Kept w1 (wr.setCell ⟨g,kk,none⟩ (.bool false)):=K.out.1.setCell (p:=⟨g,kk,none⟩) (by rw [HG.out.1]; exact Nat.le_refl _) _
         have kS2:=H.out.1.trans kS
         have d1:=HR.out.1 _ kS2
         have d2:=HR.out.2 kk hkt _ kS2
         have HE:=hid (show f = f0 + ((List.range (kk + 1)).filter (qF m r k i)).length by rw [cnt_succ,show qF m r k i kk = false by unfold qF; rw [ha,hb,hd]; rfl]; have:=K.out.2.2; rw [if_neg (by decide)]; omega)
         have HW:=hid (And.intro kS (show RowL 4 _ g (brow n (eU m r k i (kk + 1))) by have:=K.out.2.1.set kk (.bool false); rw [brow_set,eU_step (show (false:Bool) = (m i kk || (m i k && m r kk)) by rw [ha,hb,hd]; rfl)] at this; exact this))
         rw [ha] at c2 d2
         rw [hb] at c3
         rw [hd] at c5
         clear hd hb ha kS kS2
         --%S
         go_wp2_with fail
         go_roundw
         case rel => exact ⟨kk + 1,f,by omega,by omega,rfl,by go_num,Or.inr hir,HW.out.1,HW.out.2,HE.out⟩
         case measure => show n - ((kk:Int) + 1).toNat < n - (kk:Int).toNat; omega
        | true =>
         have kS:Kept w1 (wr.setCell ⟨g,kk,none⟩ (.bool true)):=K.out.1.setCell (p:=⟨g,kk,none⟩) (by rw [HG.out.1]; exact Nat.le_refl _) _
         have kS2:=H.out.1.trans kS
         have d1:=HR.out.1 _ kS2
         have d2:=HR.out.2 kk hkt _ kS2
         have HE:=hid (show f + 1 = f0 + ((List.range (kk + 1)).filter (qF m r k i)).length by rw [cnt_succ,show qF m r k i kk = true by unfold qF; rw [ha,hb,hd]; rfl]; have:=K.out.2.2; rw [if_pos rfl]; omega)
         have HW:=hid (And.intro kS (show RowL 4 _ g (brow n (eU m r k i (kk + 1))) by have:=K.out.2.1.set kk (.bool true); rw [brow_set,eU_step (show (true:Bool) = (m i kk || (m i k && m r kk)) by rw [ha,hb,hd]; rfl)] at this; exact this))
         rw [ha] at c2 d2
         rw [hb] at c3
         rw [hd] at c5
         clear hd hb ha kS kS2
         --%S
         go_wp2_with fail
         go_roundw
         case rel => exact ⟨kk + 1,f + 1,by omega,by omega,by go_num,by go_num,Or.inr hir,HW.out.1,HW.out.2,HE.out⟩
         case measure => show n - ((kk:Int) + 1).toNat < n - (kk:Int).toNat; omega
     ·
      have hkk:¬ (kk:Int) < (n:Int):=by omega
      obtain rfl:kk = n:=by omega
      have HEN:=hid (show (i = r∧kk = 0) ∨ (i ≠ r∧kk = kk) from Or.inr ⟨hir,rfl⟩)
      have HFE:=hid (show f = fillU kk m r k (i + 1) by rw [fillU_step,← H.out.2.2]; exact K.out.2.2)
      clear hir
      have cK:=K.out.2.1.cell k _ (brow_at hk)
      have cz:=K.out.2.1.fz
      have kS:Kept w1 (wr.setCell ⟨g,k,none⟩ (.bool false)):=K.out.1.setCell (p:=⟨g,k,none⟩) (by rw [HG.out.1]; exact Nat.le_refl _) _
      have HK:=hid (And.intro kS (show RowL 4 _ g (brow kk (elim m r k i)) by have:=K.out.2.1.set k (.bool false); rw [brow_set] at this; rw [← brow_congr (eU_end HEN.out)]; exact this))
      go_upto_region 14 with fail
      generalize wr.setCell ⟨g,k,none⟩ (.bool false) = w4 at HK ⊢
      obtain ⟨gs,hgl,hown,hrows⟩:=H.out.2.1.kept HK.out.1
      have HW:=hid (And.intro hgl (And.intro hown hrows))
      have hsz:w.heap.size≤w4.heap.size:=(H.out.1.trans HK.out.1).size
      clear hgl hown hrows cK cz kS
      --%F
      go_wp2_with (at_builtin; refine wpList_append_lies _ rfl (.tmp 80) (.tmp 82) 54 rfl w.heap.size 55 i0 (.slice none 0 0) 1 24 und_boolss hi hz0 hz1 hz2 rfl (by decide) u8 i (gs.map fun g => Value.slice (some ⟨g,0,none⟩) kk kk) rfl (by exact World.ownsRow.alloc HW.out.2.1 _) ⟨w4.heap.size,0,none⟩ 1 1 [.slice (some ⟨g,0,none⟩) kk kk] rfl rfl (cell_new w4 _ _) (fun u hu => by simp at hu; subst hu; rfl) (by omega) (by unfold maxLen; omega) (by omega) (by simp; omega) _ rfl ?_)
      intro G cap w5 hO hgr _ _
      have kA:=(Kept.refl w4).alloc (.cells #[.slice (some ⟨g,0,none⟩) kk kk] 55)
      have hOw:=World.ownsRow.alloc HW.out.2.1 (.cells #[.slice (some ⟨g,0,none⟩) kk kk] 55)
      generalize w4.alloc (.cells #[.slice (some ⟨g,0,none⟩) kk kk] 55) = W5 at kA hgr hOw
      have KW:Kept w w5:=Below.grown ((H.out.1.trans HK.out.1).trans kA) hgr ((H.out.1.trans HK.out.1).trans kA).size (fun k hk => (World.ownsRow.lt hOw k hk).1)
      have HB:=hid (fun (p:Nat) (xs:List Value) (hp:RowL 4 w4 p xs) => (hp.kept kA).block (hgr.block p (hp.kept kA).lt (fun e => own_row hOw (hp.kept kA) (by decide) e.symm)))
      have HQ:=hid (And.intro KW (MatU.snoc (w:=w4) (w':=w5) (g:=g) (m:=elim m r k) ⟨gs,HW.out.1,hO,HW.out.2.2⟩ HB.out HK.out.2 (show w.heap.size≤g by have h1:=HG.out.1; have h2:=H.out.1.size; omega) rfl))
      clear kA hOw hgr hO KW
      go_wp2_with fail
      go_roundw
      case rel => exact ⟨i + 1,_,f,by omega,by omega,rfl,rfl,by go_num,HQ.out.1,HQ.out.2,HFE.out⟩
      case measure => show kk - ((i:Int) + 1).toNat < kk - (i:Int).toNat; omega
  ·
   have hii:¬ (i:Int) < (n:Int):=by omega
   obtain rfl:i = n:=by omega
   have HE:=hid (show f0 = z by rw [H.out.2.2,fillU_all,HZ.out])
   go_wp2_with fail
   go_ret2
   exact ⟨H.out.1,_,by rw [HE.out]; rfl,H.out.2.1⟩
end Sp
end Go.Proofs.Ytlciijlgiknljaa

namespace Go.Proofs.Ytlciijlgiknljaa
open Go.RowKit
open V (RowL RowL.alloc RowL.lt RowL.cell RowL.fz RowL.kept RowL.block RowL.set RowL.far)
namespace Sp
theorem take_mem {l:List Int} {k:Nat} (hk:k < l.length) (x:Int):x ∈ l.take (k + 1) ↔ x = l.getD k 0 ∨ x ∈ l.take k:=by
 rw [List.take_succ_eq_append_getElem hk,List.mem_append,List.mem_singleton,List.getD_eq_getElem?_getD,List.getElem?_eq_getElem hk]
 exact Or.comm
def mT (l:List Int) (k:Nat):Nat→Bool:=fun c => decide ((c:Int) ∈ l.take k)
theorem mT_step {l:List Int} {k x:Nat} (hk:k < l.length) (hx:l.getD k 0 = (x:Int)):(fun j => if j = x then true else mT l k j) = mT l (k + 1):=by
 funext j
 unfold mT
 by_cases e:j = x
 ·
  rw [if_pos e,e]
  exact (decide_eq_true ((take_mem hk _).2 (Or.inl hx.symm))).symm
 ·
  rw [if_neg e]
  rw [Bool.eq_iff_iff,decide_eq_true_eq,decide_eq_true_eq,take_mem hk,hx]
  constructor
  ·
   exact Or.inr
  ·
   rintro (h | h)
   ·
    exact absurd (by omega) e
   ·
    exact h
set_option maxRecDepth 100000 in
set_option maxHeartbeats 8000000 in
theorem full_any (ao:Option Addr) (n c:Nat) (P:List (List Int)) (w:World) (h:PatR w (.slice ao n c) P) (hok:okP P = true) :
  Calls Try.prog 31 #[.slice ao n c] w fun e w' => Kept w w'∧∃ v,e = .returned v∧MatU w.heap.size w' v n n (mP P):=by
 have hl:=h.len
 have hn:n≤48:=by have:=okP_len hok; omega
 have hmk:=make_bools (n:=n) (by omega)
 obtain ⟨i0,hi,hz0,hz1,hz2⟩:=info_parts info_bools
 have HL:=hid (And.intro h (And.intro hl hok))
 clear h hl hok
 go_enter Try.func31,Try.ntmps31
 go_wp2_with fail
 --%A
 go_loopw [3,4] (fun v3 v4 wr => ∃ (i:Nat) (bv:Value),i≤n∧v3 = bv∧v4 = .int .i64 (i:Int)∧Hid (Kept w wr∧MatU w.heap.size wr bv n i (mP P))) (fun _ v4 _ => n - (intOf v4).toNat)
 case atStart => exact ⟨0,_,Nat.zero_le _,rfl,rfl,Kept.refl _,MatU.nil _ _ _ _⟩
 case round =>
  obtain ⟨i,bv,hil,rfl,rfl,H⟩:=hrel
  generalize wr = w1 at H ⊢
  by_cases hit:i < n
  ·
   have hii:(i:Int) < (n:Int):=by omega
   have hi0:(0:Int)≤(i:Int):=by omega
   have hiL:i < P.length:=by have:=HL.out.2.1; omega
   obtain ⟨b,off,rfl,ra,rc,hc,hI⟩:=HL.out.1.row hiL
   have HC:=hid hc
   have HI:=hid hI
   have HM:=hid (fun x hx => okP_mem HL.out.2.2 hiL x hx)
   have hlen:(P.getD i []).length≤n:=by
    have h1:=rowOk_long (okP_row HL.out.2.2 hiL) (by omega)
    have h2:=HL.out.2.1
    omega
   have HP:=hid (show mP P i = fun (c:Nat) => decide ((c:Int) ∈ P.getD i []) from rfl)
   generalize P.getD i [] = row at HC HI HM hlen HP
   obtain ⟨rl,hrl⟩:∃ r,r = row.length:=⟨_,rfl⟩
   rw [← hrl] at HC HI hlen
   have HR:=hid hrl
   clear hc hI hrl
   have kA:=(Kept.refl w1).alloc (.cells (brow n fun _ => false).toArray 4)
   have rA:=RowL.alloc 4 w1 (brow n fun _ => false)
   go_upto_region 6 with fail
   --%B
   generalize w1.alloc (.cells (brow n fun _ => false).toArray 4) = W at kA rA ⊢
   obtain ⟨g,hg⟩:∃ q,q = w1.heap.size:=⟨_,rfl⟩
   rw [← hg] at rA ⊢
   have HG:=hid (And.intro (show g = w1.heap.size from hg) (show w1.heap.size < W.heap.size by have:=rA.lt; rw [hg] at this; exact this))
   have HK:=hid (And.intro kA rA)
   clear kA rA hg
   go_wp2_with fail
   --%C
   go_loopw [6] (fun v6 wr => ∃ (k:Nat),k≤rl∧v6 = .int .i64 (k:Int)∧Hid (Kept w1 wr∧RowL 4 wr g (brow n (mT row k)))) (fun v6 _ => rl - (intOf v6).toNat)
   case atStart => exact ⟨0,Nat.zero_le _,rfl,HK.out.1,HK.out.2⟩
   case round =>
    clear HK
    obtain ⟨k,hkl,rfl,K⟩:=hrel
    have c1:=HC.out _ (H.out.1.trans K.out.1)
    by_cases hkt:k < rl
    ·
     have hkk:(k:Int) < (rl:Int):=by omega
     have hk0:(0:Int)≤(k:Int):=by omega
     have hkL:k < row.length:=by have:=HR.out; omega
     obtain ⟨b2,o2,rfl,hd⟩:=HI.out.at hkL
     have c2:=hd _ (H.out.1.trans K.out.1)
     have hm:=HM.out (row.getD k 0) (by rw [List.getD_eq_getElem?_getD,List.getElem?_eq_getElem hkL]; exact List.getElem_mem hkL)
     obtain ⟨x,hx⟩:=Int.eq_ofNat_of_zero_le hm.1
     have hx2:(x:Int) < (n:Int):=by have:=HL.out.2.1; omega
     have hx0:(0:Int)≤(x:Int):=by omega
     have HS:=hid (mT_step hkL hx)
     rw [hx] at c2
     have c3:=K.out.2.cell x _ (brow_at (by omega))
     have cz:=K.out.2.fz
     have HQ:=hid (And.intro (K.out.1.setCell (p:=⟨g,x,none⟩) (by rw [HG.out.1]; exact Nat.le_refl _) (.bool true)) (K.out.2.set x (.bool true)))
     clear hd hm hx
     --%D
     go_wp2_with fail
     go_roundw
     case rel => exact ⟨k + 1,by omega,by go_num,HQ.out.1,by have:=HQ.out.2; rw [brow_set,HS.out] at this; exact this⟩
     case measure => show rl - ((k:Int) + 1).toNat < rl - (k:Int).toNat; omega
    ·
     have hkk:¬ (k:Int) < (rl:Int):=by omega
     have HK:=hid (And.intro K.out.1 (show RowL 4 wr g (brow n (mP P i)) by
      have h1:=K.out.2
      have h2:mT row k = mP P i:=by
       rw [HP.out]
       unfold mT
       rw [List.take_of_length_le (by have:=HR.out; omega)]
      rw [h2] at h1
      exact h1))
     clear K
     --%E
     obtain ⟨gs,hgl,hown,hrows⟩:=H.out.2.kept HK.out.1
     have HW:=hid (And.intro hgl (And.intro hown hrows))
     have hsz:w.heap.size≤wr.heap.size:=(H.out.1.trans HK.out.1).size
     clear hgl hown hrows
     go_wp2_with (at_builtin; refine wpList_append_lies _ rfl (.tmp 34) (.tmp 36) 54 rfl w.heap.size 55 i0 (.slice none 0 0) 1 24 und_boolss hi hz0 hz1 hz2 rfl (by decide) u3 i (gs.map fun g => Value.slice (some ⟨g,0,none⟩) n n) rfl (by exact World.ownsRow.alloc HW.out.2.1 _) ⟨wr.heap.size,0,none⟩ 1 1 [.slice (some ⟨g,0,none⟩) n n] rfl rfl (cell_new wr _ _) (fun u hu => by simp at hu; subst hu; rfl) (by omega) (by unfold maxLen; omega) (by omega) (by simp; omega) _ rfl ?_)
     --%F
     intro G cap w5 hO hgr _ _
     have kA:=(Kept.refl wr).alloc (.cells #[.slice (some ⟨g,0,none⟩) n n] 55)
     have hOw:=World.ownsRow.alloc HW.out.2.1 (.cells #[.slice (some ⟨g,0,none⟩) n n] 55)
     generalize wr.alloc (.cells #[.slice (some ⟨g,0,none⟩) n n] 55) = W5 at kA hgr hOw
     have KW:Kept w w5:=Below.grown ((H.out.1.trans HK.out.1).trans kA) hgr ((H.out.1.trans HK.out.1).trans kA).size (fun k hk => (World.ownsRow.lt hOw k hk).1)
     have HB:=hid (fun (p:Nat) (xs:List Value) (hp:RowL 4 wr p xs) => (hp.kept kA).block (hgr.block p (hp.kept kA).lt (fun e => own_row hOw (hp.kept kA) (by decide) e.symm)))
     have HQ:=hid (And.intro KW (MatU.snoc (w:=wr) (w':=w5) (g:=g) (m:=mP P) ⟨gs,HW.out.1,hO,HW.out.2.2⟩ HB.out HK.out.2 (show w.heap.size≤g by have h1:=HG.out.1; have h2:=H.out.1.size; omega) rfl))
     clear kA hOw hgr hO KW
     go_wp2_with fail
     go_roundw
     case rel => exact ⟨i + 1,_,by omega,rfl,by go_num,HQ.out.1,HQ.out.2⟩
     case measure => show n - ((i:Int) + 1).toNat < n - (i:Int).toNat; omega
  ·
   have hii:¬ (i:Int) < (n:Int):=by omega
   obtain rfl:i = n:=by omega
   go_wp2_with fail
   go_ret
   exact ⟨H.out.1,_,rfl,H.out.2⟩
end Sp
end Go.Proofs.Ytlciijlgiknljaa

namespace Go.Proofs.Ytlciijlgiknljaa
open Go.RowKit
namespace Sp
def sqUp (n i k:Nat):List (Nat × Nat):=((List.range i).flatMap fun i => (List.range n).map fun k => (i,k)) ++ (List.range k).map fun k => (i,k)
def bestUp (n:Nat) (m:Nat→Nat→Bool) (i k:Nat):Option (Nat × Nat):=(sqUp n i k).foldl (less n m) none
theorem bestUp_step (n:Nat) (m:Nat→Nat→Bool) (i k:Nat):bestUp n m i (k + 1) = less n m (bestUp n m i k) (i,k):=by
 unfold bestUp sqUp
 rw [List.range_succ,List.map_append,← List.append_assoc,List.foldl_append]
 rfl
theorem bestUp_row (n:Nat) (m:Nat→Nat→Bool) (i:Nat):bestUp n m (i + 1) 0 = bestUp n m i n:=by
 unfold bestUp sqUp
 rw [List.range_succ,List.flatMap_append]
 simp
theorem bestUp_all (n:Nat) (m:Nat→Nat→Bool):bestUp n m n 0 = bestOf n m:=by
 unfold bestUp sqUp bestOf square
 simp
theorem bestUp_in {n:Nat} {m:Nat→Nat→Bool}:∀ {i k:Nat},i≤n→k≤n→(k = 0 ∨ i < n)→∀ q,bestUp n m i k = some q→q.1 < n∧q.2 < n:=by
 intro i k hi hk hik q h
 have h1:IsLeast n m (sqUp n i k) (bestUp n m i k):=by
  have hw:(sqUp n i k).Pairwise ahead:=by
   unfold sqUp
   rw [List.pairwise_append,List.pairwise_flatMap]
   refine ⟨⟨fun i _ => ?_,?_⟩,?_,?_⟩
   ·
    rw [List.pairwise_map]
    exact List.pairwise_lt_range.imp fun h => Or.inr ⟨rfl,h⟩
   ·
    refine List.pairwise_lt_range.imp fun {i j} h x hx y hy => ?_
    obtain ⟨_,_,rfl⟩:=List.mem_map.1 hx
    obtain ⟨_,_,rfl⟩:=List.mem_map.1 hy
    exact Or.inl h
   ·
    rw [List.pairwise_map]
    exact List.pairwise_lt_range.imp fun h => Or.inr ⟨rfl,h⟩
   ·
    intro x hx y hy
    obtain ⟨j,hj,hx⟩:=List.mem_flatMap.1 hx
    obtain ⟨_,_,rfl⟩:=List.mem_map.1 hx
    obtain ⟨_,_,rfl⟩:=List.mem_map.1 hy
    exact Or.inl (List.mem_range.1 hj)
  have:=least_all n m (sqUp n i k) [] none hw (fun p hp => by cases hp)
  exact this
 rw [h] at h1
 have h2:=h1.1
 unfold sqUp at h2
 rcases List.mem_append.1 h2 with h2 | h2
 ·
  obtain ⟨j,hj,hx⟩:=List.mem_flatMap.1 h2
  obtain ⟨j',hj',rfl⟩:=List.mem_map.1 hx
  have:=List.mem_range.1 hj
  have:=List.mem_range.1 hj'
  exact ⟨by show j < n; omega,by show j' < n; omega⟩
 ·
  obtain ⟨j',hj',rfl⟩:=List.mem_map.1 h2
  have:=List.mem_range.1 hj'
  exact ⟨by show i < n; omega,by show j' < n; omega⟩
def rO (o:Option (Nat × Nat)):Nat:=match o with | none => 0 | some q => q.1
def cO (o:Option (Nat × Nat)):Nat:=match o with | none => 0 | some q => q.2
set_option maxRecDepth 100000 in
set_option maxHeartbeats 8000000 in
theorem choose_any (ao:Option Addr) (n c:Nat) (m:Nat→Nat→Bool) (w:World) (h:MatR w (.slice ao n c) n m) (hn:n≤48) :
  Calls Try.prog 35 #[.slice ao n c] w fun e w' => w' = w∧e = .returned (.tuple #[.int .i64 (rO (bestOf n m):Int),.int .i64 (cO (bestOf n m):Int),.bool (bestOf n m).isSome]):=by
 have HL:=hid h
 obtain ⟨z,hz⟩:∃ z,z = bestOf n m:=⟨_,rfl⟩
 rw [← hz]
 have HZ:=hid (show bestUp n m n 0 = z by rw [bestUp_all,hz])
 clear h hz
 go_enter Try.func35,Try.ntmps35
 go_wp2_with fail
 go_loopw [5,6,7,8] (fun v5 v6 v7 v8 wr => ∃ (i:Nat) (o:Option (Nat × Nat)),i≤n∧v5 = .int .i64 (rO o:Int)∧v6 = .int .i64 (cO o:Int)∧v7 = .bool o.isSome∧v8 = .int .i64 (i:Int)∧wr = w∧Hid (o = bestUp n m i 0)) (fun _ _ _ v8 _ => n - (intOf v8).toNat)
 case atStart => exact ⟨0,none,Nat.zero_le _,rfl,rfl,rfl,rfl,rfl,rfl⟩
 case round =>
  obtain ⟨i,o,hil,rfl,rfl,rfl,rfl,rfl,H⟩:=hrel
  by_cases hit:i < n
  ·
   have hii:(i:Int) < (n:Int):=by omega
   have hi0:(0:Int)≤(i:Int):=by omega
   obtain ⟨b,off,rfl,rb,ro,rc,hR,hRc⟩:=HL.out.row hit
   have HR:=hid (And.intro hR hRc)
   clear hR hRc
   generalize wr = w at HL HR ⊢
   go_wp2_with fail
   go_loopw [5,6,7,9] (fun v5 v6 v7 v9 wr => ∃ (k:Nat) (o:Option (Nat × Nat)),k≤n∧v5 = .int .i64 (rO o:Int)∧v6 = .int .i64 (cO o:Int)∧v7 = .bool o.isSome∧v9 = .int .i64 (k:Int)∧wr = w∧Hid (o = bestUp n m i k)) (fun _ _ _ v9 _ => n - (intOf v9).toNat)
   case atStart => exact ⟨0,o,Nat.zero_le _,rfl,rfl,rfl,rfl,rfl,H.out⟩
   case round =>
    clear H
    obtain ⟨k,o,hkl,rfl,rfl,rfl,rfl,rfl,H⟩:=hrel
    by_cases hkt:k < n
    ·
     have hkk:(k:Int) < (n:Int):=by omega
     have hk0:(0:Int)≤(k:Int):=by omega
     have c1:=HR.out.1 _ (Kept.refl _)
     have c2:=HR.out.2 k hkt _ (Kept.refl _)
     have HS:=hid (show bestUp n m i (k + 1) = less n m o (i,k) by rw [bestUp_step,← H.out])
     have HIN:=hid (show ∀ q,o = some q→q.1 < n∧q.2 < n by intro q hq; exact bestUp_in hil hkl (Or.inr hit) q (by rw [← H.out]; exact hq))
     cases hm:m i k with
     | false =>
      have HE:=hid (show o = bestUp n m i (k + 1) by rw [HS.out]; unfold less; rw [if_neg (by rw [hm]; decide)])
      rw [hm] at c2
      clear hm
      --%A
      go_wp2_with fail
      go_roundw
      case rel => exact ⟨k + 1,o,by omega,rfl,rfl,rfl,by go_num,by first | rfl | trivial,HE.out⟩
      case measure => show n - ((k:Int) + 1).toNat < n - (k:Int).toNat; omega
     | true =>
      rw [hm] at c2
      cases o with
      | none =>
       have HE:=hid (show some (i,k) = bestUp n m i (k + 1) by rw [HS.out]; unfold less; rw [if_pos hm])
       clear hm
       --%B
       go_wp2_with fail
       go_roundw
       case rel => exact ⟨k + 1,some (i,k),by omega,rfl,rfl,rfl,by go_num,by first | rfl | trivial,HE.out⟩
       case measure => show n - ((k:Int) + 1).toNat < n - (k:Int).toNat; omega
      | some q =>
       have hq:=HIN.out q rfl
       have hP1:=price_any (some ⟨b,off,none⟩) n c m i k wr HL.out hn hit hkt
       have hP2:=price_any (some ⟨b,off,none⟩) n c m q.1 q.2 wr HL.out hn hq.1 hq.2
       have HE:=hid (show (if cost n m i k < cost n m q.1 q.2 then some (i,k) else some q) = bestUp n m i (k + 1) by rw [HS.out]; unfold less; rw [if_pos hm])
       clear hm HS HIN
       generalize cost n m i k = x at hP1 HE
       generalize cost n m q.1 q.2 = y at hP2 HE
       obtain ⟨qr,qc⟩:=q
       have HPP:=hid (And.intro hP1 hP2)
       clear hP1 hP2
       --%C
       go_wp2_with fail
       refine HPP.out.1.mono ?_
       rintro e w1 ⟨rfl,rfl⟩
       go_wp2_with fail
       refine HPP.out.2.mono ?_
       rintro e w2 ⟨rfl,rfl⟩
       --%D
       by_cases hxy:x < y
       ·
        have HE:=hid (show some (i,k) = bestUp n m i (k + 1) by rw [← HE.out,if_pos hxy])
        go_wp2_with fail
        go_roundw
        case rel => exact ⟨k + 1,some (i,k),by omega,rfl,rfl,rfl,by go_num,by first | rfl | trivial,HE.out⟩
        case measure => show n - ((k:Int) + 1).toNat < n - (k:Int).toNat; omega
       ·
        have HE:=hid (show some (qr,qc) = bestUp n m i (k + 1) by rw [← HE.out,if_neg hxy])
        go_wp2_with fail
        go_roundw
        case rel => exact ⟨k + 1,some (qr,qc),by omega,rfl,rfl,rfl,by go_num,by first | rfl | trivial,HE.out⟩
        case measure => show n - ((k:Int) + 1).toNat < n - (k:Int).toNat; omega
    ·
     have hkk:¬ (k:Int) < (n:Int):=by omega
     obtain rfl:k = n:=by omega
     have HE:=hid (show o = bestUp k m (i + 1) 0 by rw [bestUp_row]; exact H.out)
     clear H
     go_wp2_with fail
     go_roundw
     case rel => exact ⟨i + 1,o,by omega,rfl,rfl,rfl,by go_num,by first | rfl | trivial,HE.out⟩
     case measure => show k - ((i:Int) + 1).toNat < k - (i:Int).toNat; omega
  ·
   have hii:¬ (i:Int) < (n:Int):=by omega
   obtain rfl:i = n:=by omega
   have HE:=hid (show o = z by rw [H.out,HZ.out])
   clear H HZ
   go_wp2_with fail
   go_ret3
   exact ⟨rfl,by rw [HE.out]; rfl⟩
end Sp
end Go.Proofs.Ytlciijlgiknljaa

namespace Go.Proofs.Ytlciijlgiknljaa
open Go.RowKit
open V (RowL RowL.alloc RowL.lt RowL.cell RowL.fz RowL.kept RowL.block RowL.set RowL.far)
namespace Sp
set_option maxRecDepth 100000 in
set_option maxHeartbeats 8000000 in
theorem thin_any (ao:Option Addr) (n c:Nat) (m:Nat→Nat→Bool) (w:World) (h:MatR w (.slice ao n c) n m) (hn:n≤48) :
  Calls Try.prog 39 #[.slice ao n c] w fun e w' => Kept w w'∧∃ v,e = .returned v∧PatU w.heap.size w' v (thinP n m n):=by
 obtain ⟨i0,hi,hz0,hz1,hz2⟩:=info_parts info_ints
 obtain ⟨i1,hj,hy0,hy1,hy2⟩:=info_parts info_i64
 have HL:=hid h
 clear h
 go_enter Try.func39,Try.ntmps39
 go_wp2_with fail
 go_loopw [3,4] (fun v3 v4 wr => ∃ (i:Nat) (bv:Value),i≤n∧v3 = bv∧v4 = .int .i64 (i:Int)∧Hid (Kept w wr∧PatU w.heap.size wr bv (thinP n m i))) (fun _ v4 _ => n - (intOf v4).toNat)
 case atStart => exact ⟨0,_,Nat.zero_le _,rfl,rfl,Kept.refl _,PatU.nil _ _⟩
 case round =>
  obtain ⟨i,bv,hil,rfl,rfl,H⟩:=hrel
  generalize wr = w1 at H ⊢
  by_cases hit:i < n
  ·
   have hii:(i:Int) < (n:Int):=by omega
   have hi0:(0:Int)≤(i:Int):=by omega
   obtain ⟨b,off,rfl,rb,ro,rc,hR,hRc⟩:=HL.out.row hit
   have HR:=hid (And.intro hR hRc)
   clear hR hRc
   go_wp2_with fail
   --%A
   go_loopw [5,6] (fun v5 v6 wr => ∃ (k:Nat) (rv:Value),k≤n∧v5 = rv∧v6 = .int .i64 (k:Int)∧Hid (Kept w1 wr∧OwnI w1.heap.size wr rv (thinR m i k))) (fun _ v6 _ => n - (intOf v6).toNat)
   case atStart => exact ⟨0,_,Nat.zero_le _,rfl,rfl,Kept.refl _,World.ownsRow_nil _ _ _ _⟩
   case round =>
    obtain ⟨k,rv,hkl,rfl,rfl,K⟩:=hrel
    have c1:=HR.out.1 _ (H.out.1.trans K.out.1)
    by_cases hkt:k < n
    ·
     have hkk:(k:Int) < (n:Int):=by omega
     have hk0:(0:Int)≤(k:Int):=by omega
     have c2:=HR.out.2 k hkt _ (H.out.1.trans K.out.1)
     have HS:=hid (thinR_step m i k)
     cases hm:m i k with
     | false =>
      rw [hm] at c2 HS
      clear hm
      --%B
      go_wp2_with fail
      go_roundw
      case rel => exact ⟨k + 1,_,by omega,rfl,by go_num,K.out.1,by rw [HS.out,if_neg (by decide)]; exact K.out.2⟩
      case measure => show n - ((k:Int) + 1).toNat < n - (k:Int).toNat; omega
     | true =>
      rw [hm] at c2 HS
      clear hm
      have HS1:=hid (show thinR m i (k + 1) = thinR m i k ++ [(k:Int)] by rw [HS.out,if_pos rfl])
      clear HS
      have hll:=thinR_len m i k
      have hsz:=K.out.1.size
      generalize thinR m i k = l at K HS1 hll
      --%C
      go_wp2_with (at_builtin; refine wpList_append_lies _ rfl (.tmp 29) (.tmp 31) 41 rfl w1.heap.size 3 i1 (.int .i64 0) 1 8 und_ints hj hy0 hy1 hy2 rfl (by decide) u5 l.length (l.map (Value.int .i64)) rfl (by exact World.ownsRow.alloc K.out.2 _) ⟨wr.heap.size,0,none⟩ 1 1 [.int .i64 (k:Int)] rfl rfl (cell_new wr _ _) (fun u hu => by simp at hu; subst hu; rfl) (by omega) (by unfold maxLen; omega) (by omega) (by simp; omega) _ rfl ?_)
      intro G cap w5 hO hgr _ _
      have kA:=(Kept.refl wr).alloc (.cells #[.int .i64 (k:Int)] 3)
      have hOw:=World.ownsRow.alloc K.out.2 (.cells #[.int .i64 (k:Int)] 3)
      generalize wr.alloc (.cells #[.int .i64 (k:Int)] 3) = W5 at kA hgr hOw
      have KW:Kept w1 w5:=Below.grown (K.out.1.trans kA) hgr (K.out.1.trans kA).size (fun k hk => (World.ownsRow.lt hOw k hk).1)
      have HQ:=hid (And.intro KW (OwnI.snoc hO))
      clear kA hOw hgr hO KW
      go_wp2_with fail
      go_roundw
      case rel => exact ⟨k + 1,_,by omega,rfl,by go_num,HQ.out.1,by rw [HS1.out]; exact HQ.out.2⟩
      case measure => show n - ((k:Int) + 1).toNat < n - (k:Int).toNat; omega
    ·
     have hkk:¬ (k:Int) < (n:Int):=by omega
     obtain rfl:n = k:=by omega
     obtain ⟨ra,rcp,hrv⟩:=own_shape K.out.2
     have hrl:=thinR_len m i n
     have HS:=hid (thinP_step n m i)
     have HPL:=hid (thinP_len n m i)
     generalize thinR m i n = l at K HS hrv hrl
     generalize hp:thinP n m i = P at H HS HPL
     clear hp
     subst hrv
     obtain ⟨hs,hgl,hown,hrows⟩:=H.out.2.kept K.out.1
     have HW:=hid (And.intro hgl (And.intro hown hrows))
     have hsz:w.heap.size≤wr.heap.size:=(H.out.1.trans K.out.1).size
     have hpl:P.length = i:=HPL.out
     have HPL:=hid hpl
     have hPb:P.length≤48:=by omega
     clear hgl hown hrows hpl
     --%F
     go_wp2_with (at_builtin; refine wpList_append_lies _ rfl (.tmp 33) (.tmp 35) 22 rfl w.heap.size 41 i0 (.slice none 0 0) 1 24 und_intss hi hz0 hz1 hz2 rfl (by decide) u3 P.length hs rfl (by exact World.ownsRow.alloc HW.out.2.1 _) ⟨wr.heap.size,0,none⟩ 1 1 [.slice ra l.length rcp] rfl rfl (cell_new wr _ _) (fun u hu => by simp at hu; subst hu; rfl) (by omega) (by unfold maxLen; omega) (by omega) (by simp; omega) _ rfl ?_)
     intro G cap w5 hO hgr _ _
     have kA:=(Kept.refl wr).alloc (.cells #[.slice ra l.length rcp] 41)
     have hOw:=World.ownsRow.alloc HW.out.2.1 (.cells #[.slice ra l.length rcp] 41)
     generalize wr.alloc (.cells #[.slice ra l.length rcp] 41) = W5 at kA hgr hOw
     have KW:Kept w w5:=Below.grown ((H.out.1.trans K.out.1).trans kA) hgr ((H.out.1.trans K.out.1).trans kA).size (fun k hk => (World.ownsRow.lt hOw k hk).1)
     have HB:=hid (fun (v:Value) (l:List Int) (hp:OwnI w.heap.size wr v l) => (show OwnI w.heap.size w5 v l from own_kept (own_keptK hp kA) (fun b hb => hgr.block b (World.ownsRow.lt (own_keptK hp kA) b hb).2 (fun e => own_apart (own_keptK hp kA) hOw (by decide) b hb e.symm))))
     have HQ:=hid (And.intro KW (PatU.snoc (w:=wr) (w':=w5) HW.out.1 hO HW.out.2.2 HB.out (own_mono K.out.2 H.out.1.size)))
     clear kA hOw hgr hO KW
     go_wp2_with fail
     go_roundw
     case rel => exact ⟨i + 1,_,by omega,rfl,by go_num,HQ.out.1,by rw [HS.out]; exact HQ.out.2⟩
     case measure => show n - ((i:Int) + 1).toNat < n - (i:Int).toNat; omega
  ·
   have hii:¬ (i:Int) < (n:Int):=by omega
   obtain rfl:i = n:=by omega
   go_wp2_with fail
   go_ret
   exact ⟨H.out.1,_,rfl,H.out.2⟩
end Sp
end Go.Proofs.Ytlciijlgiknljaa

namespace Go.Proofs.Ytlciijlgiknljaa
open Go.RowKit
namespace Sp
theorem MatU.shape {B:Nat} {w:World} {v:Value} {n i:Nat} {m:Nat→Nat→Bool} (h:MatU B w v n i m):∃ ao cap,v = .slice ao i cap:=by
 obtain ⟨gs,_,h2,_⟩:=h
 exact own_shape h2
theorem PatU.shape {B:Nat} {w:World} {v:Value} {P:List (List Int)} (h:PatU B w v P):∃ ao cap,v = .slice ao P.length cap:=by
 obtain ⟨gs,_,h2,_⟩:=h
 exact own_shape h2
def costS (P:List (List Int)) (r k:Int):Int × Int:=if okP P = true then (if hasM P.length (mP P) r k = true then (cost P.length (mP P) r.toNat k.toNat,0) else (0,1)) else (0,130)
def bestS (P:List (List Int)):Option (Nat × Nat):=if okP P = true then bestOf P.length (mP P) else none
def elimS (P:List (List Int)) (r k:Int):List (List Int) × Int:=if okP P = true then (if hasM P.length (mP P) r k = true then (thinP P.length (elim (mP P) r.toNat k.toNat) P.length,0) else ([],1)) else ([],130)
theorem hasM_in {n:Nat} {m:Nat→Nat→Bool} {r k:Int} (h:hasM n m r k = true):∃ r' k':Nat,r = (r':Int)∧k = (k':Int)∧r' < n∧k' < n∧m r' k' = true:=by
 unfold hasM at h
 simp only [Bool.and_eq_true,decide_eq_true_eq] at h
 obtain ⟨h1,h2,h3,h4,h5⟩:=h
 obtain ⟨r',rfl⟩:=Int.eq_ofNat_of_zero_le h1
 obtain ⟨k',rfl⟩:=Int.eq_ofNat_of_zero_le h3
 exact ⟨r',k',rfl,rfl,by omega,by omega,h5⟩
set_option maxRecDepth 100000 in
set_option maxHeartbeats 8000000 in
theorem rcost_any (ao:Option Addr) (n c:Nat) (P:List (List Int)) (r k:Int) (w:World) (h:PatR w (.slice ao n c) P) (hn:n≤1000000) (hr:∀ l ∈ P,l.length≤1000000) :
  Calls Try.prog 13 #[.slice ao n c,.int .i64 r,.int .i64 k] w fun e w' => Kept w w'∧e = .returned (.tuple #[.int .i64 (costS P r k).1,.int .i64 (costS P r k).2]):=by
 have hl:=h.len
 have HL:=hid (And.intro h (And.intro hl hr))
 obtain ⟨x,hx⟩:∃ x,x = (costS P r k).1:=⟨_,rfl⟩
 obtain ⟨y,hy⟩:∃ y,y = (costS P r k).2:=⟨_,rfl⟩
 rw [← hx,← hy]
 have HZ:=hid (And.intro hx hy)
 clear h hl hr hx hy
 go_enter Try.func13,Try.ntmps13
 go_wp2_with fail
 refine (rcheck_any ao n c P _ HL.out.1 hn HL.out.2.2).mono ?_
 rintro e w1 ⟨hk,rfl⟩
 have HK:=hid hk
 clear hk
 cases hok:okP P with
 | false =>
  have HE:=hid (show x = 0∧y = 130 by rw [HZ.out.1,HZ.out.2]; unfold costS; rw [if_neg (by rw [hok]; decide)]; exact ⟨rfl,rfl⟩)
  have hc:chkP P = 130:=by unfold chkP; rw [if_neg (by rw [hok]; decide)]
  rw [hc]
  clear hc hok
  go_wp2_with fail
  go_ret2
  exact ⟨HK.out,by rw [HE.out.1,HE.out.2]; rfl⟩
 | true =>
  have hc:chkP P = 0:=by unfold chkP; rw [if_pos hok]
  rw [hc]
  have hn48:n≤48:=by have:=okP_len hok; have:=HL.out.2.1; omega
  have HOK:=hid hok
  clear hc hok
  go_wp2_with fail
  refine (full_any ao n c P _ (HL.out.1.kept HK.out) HOK.out).mono ?_
  rintro e w2 ⟨hk,v,rfl,hM⟩
  obtain ⟨va,vc,rfl⟩:=hM.shape
  have HK:=hid (HK.out.trans hk)
  have HM:=hid hM.mat
  clear hk hM
  go_wp2_with fail
  refine (has_any va n vc (mP P) r k _ HM.out).mono ?_
  rintro e w3 ⟨rfl,rfl⟩
  cases hh:hasM n (mP P) r k with
  | false =>
   have HE:=hid (show x = 0∧y = 1 by rw [HZ.out.1,HZ.out.2]; unfold costS; rw [if_pos HOK.out,← HL.out.2.1,if_neg (by rw [hh]; decide)]; exact ⟨rfl,rfl⟩)
   clear hh
   go_wp2_with fail
   go_ret2
   exact ⟨HK.out,by rw [HE.out.1,HE.out.2]; rfl⟩
  | true =>
   have HE:=hid (show x = cost n (mP P) r.toNat k.toNat∧y = 0 by rw [HZ.out.1,HZ.out.2]; unfold costS; rw [if_pos HOK.out,← HL.out.2.1,if_pos hh]; exact ⟨rfl,rfl⟩)
   obtain ⟨r',k',rfl,rfl,h1,h2,_⟩:=hasM_in hh
   clear hh
   go_wp2_with fail
   refine (price_any va n vc (mP P) r' k' _ HM.out hn48 h1 h2).mono ?_
   rintro e w4 ⟨rfl,rfl⟩
   go_wp2_with fail
   go_ret2
   exact ⟨HK.out,by rw [HE.out.1,HE.out.2]; rfl⟩
set_option maxRecDepth 100000 in
set_option maxHeartbeats 8000000 in
theorem rbest_any (ao:Option Addr) (n c:Nat) (P:List (List Int)) (w:World) (h:PatR w (.slice ao n c) P) (hn:n≤1000000) (hr:∀ l ∈ P,l.length≤1000000) :
  Calls Try.prog 15 #[.slice ao n c] w fun e w' => Kept w w'∧e = .returned (.tuple #[.int .i64 (rO (bestS P):Int),.int .i64 (cO (bestS P):Int),.bool (bestS P).isSome,.int .i64 (chkP P)]):=by
 have hl:=h.len
 have HL:=hid (And.intro h (And.intro hl hr))
 obtain ⟨x,hx⟩:∃ x,x = bestS P:=⟨_,rfl⟩
 obtain ⟨y,hy⟩:∃ y,y = chkP P:=⟨_,rfl⟩
 rw [← hx,← hy]
 have HZ:=hid (And.intro hx hy)
 clear h hl hr hx hy
 go_enter Try.func15,Try.ntmps15
 go_wp2_with fail
 refine (rcheck_any ao n c P _ HL.out.1 hn HL.out.2.2).mono ?_
 rintro e w1 ⟨hk,rfl⟩
 have HK:=hid hk
 clear hk
 cases hok:okP P with
 | false =>
  have hc:chkP P = 130:=by unfold chkP; rw [if_neg (by rw [hok]; decide)]
  have HE:=hid (show x = none∧y = 130 by rw [HZ.out.1,HZ.out.2,hc]; unfold bestS; rw [if_neg (by rw [hok]; decide)]; exact ⟨rfl,rfl⟩)
  rw [hc]
  clear hc hok
  go_wp2_with fail
  exact bodyPost_ret (v:=.tuple #[.int .i64 0,.int .i64 0,.bool false,.int .i64 130]) (by simp [results,Try.results15,go_sem]) rfl ⟨HK.out,by rw [HE.out.1,HE.out.2]; rfl⟩
 | true =>
  have hc:chkP P = 0:=by unfold chkP; rw [if_pos hok]
  have hn48:n≤48:=by have:=okP_len hok; have:=HL.out.2.1; omega
  have HE:=hid (show x = bestOf n (mP P)∧y = 0 by rw [HZ.out.1,HZ.out.2,hc]; unfold bestS; rw [if_pos hok,← HL.out.2.1]; exact ⟨rfl,rfl⟩)
  rw [hc]
  have HOK:=hid hok
  clear hc hok
  go_wp2_with fail
  refine (full_any ao n c P _ (HL.out.1.kept HK.out) HOK.out).mono ?_
  rintro e w2 ⟨hk,v,rfl,hM⟩
  obtain ⟨va,vc,rfl⟩:=hM.shape
  have HK:=hid (HK.out.trans hk)
  have HM:=hid hM.mat
  clear hk hM
  go_wp2_with fail
  refine (choose_any va n vc (mP P) _ HM.out hn48).mono ?_
  rintro e w3 ⟨rfl,rfl⟩
  generalize bestOf n (mP P) = o at HE
  go_wp2_with fail
  exact bodyPost_ret (v:=.tuple #[.int .i64 (rO o:Int),.int .i64 (cO o:Int),.bool o.isSome,.int .i64 0]) (by simp [results,Try.results15,go_sem]) rfl ⟨HK.out,by rw [HE.out.1,HE.out.2]⟩
set_option maxRecDepth 100000 in
set_option maxHeartbeats 8000000 in
theorem relim_any (ao:Option Addr) (n c:Nat) (P:List (List Int)) (r k:Int) (w:World) (h:PatR w (.slice ao n c) P) (hn:n≤1000000) (hr:∀ l ∈ P,l.length≤1000000) :
  Calls Try.prog 17 #[.slice ao n c,.int .i64 r,.int .i64 k] w fun e w' => Kept w w'∧∃ v,e = .returned (.tuple #[v,.int .i64 (elimS P r k).2])∧PatU w.heap.size w' v (elimS P r k).1:=by
 have hl:=h.len
 have HL:=hid (And.intro h (And.intro hl hr))
 obtain ⟨x,hx⟩:∃ x,x = (elimS P r k).1:=⟨_,rfl⟩
 obtain ⟨y,hy⟩:∃ y,y = (elimS P r k).2:=⟨_,rfl⟩
 rw [← hx,← hy]
 have HZ:=hid (And.intro hx hy)
 clear h hl hr hx hy
 go_enter Try.func17,Try.ntmps17
 go_wp2_with fail
 refine (rcheck_any ao n c P _ HL.out.1 hn HL.out.2.2).mono ?_
 rintro e w1 ⟨hk,rfl⟩
 have HK:=hid hk
 clear hk
 cases hok:okP P with
 | false =>
  have HE:=hid (show x = []∧y = 130 by rw [HZ.out.1,HZ.out.2]; unfold elimS; rw [if_neg (by rw [hok]; decide)]; exact ⟨rfl,rfl⟩)
  have hc:chkP P = 130:=by unfold chkP; rw [if_neg (by rw [hok]; decide)]
  rw [hc]
  clear hc hok
  go_wp2_with fail
  go_ret2
  exact ⟨HK.out,_,by rw [HE.out.2]; rfl,by rw [HE.out.1]; exact PatU.nil _ _⟩
 | true =>
  have hc:chkP P = 0:=by unfold chkP; rw [if_pos hok]
  rw [hc]
  have hn48:n≤48:=by have:=okP_len hok; have:=HL.out.2.1; omega
  have HOK:=hid hok
  clear hc hok
  go_wp2_with fail
  refine (full_any ao n c P _ (HL.out.1.kept HK.out) HOK.out).mono ?_
  rintro e w2 ⟨hk,v,rfl,hM⟩
  obtain ⟨va,vc,rfl⟩:=hM.shape
  have HK:=hid (HK.out.trans hk)
  have HM:=hid hM.mat
  clear hk hM
  go_wp2_with fail
  refine (has_any va n vc (mP P) r k _ HM.out).mono ?_
  rintro e w3 ⟨rfl,rfl⟩
  cases hh:hasM n (mP P) r k with
  | false =>
   have HE:=hid (show x = []∧y = 1 by rw [HZ.out.1,HZ.out.2]; unfold elimS; rw [if_pos HOK.out,← HL.out.2.1,if_neg (by rw [hh]; decide)]; exact ⟨rfl,rfl⟩)
   clear hh
   go_wp2_with fail
   go_ret2
   exact ⟨HK.out,_,by rw [HE.out.2]; rfl,by rw [HE.out.1]; exact PatU.nil _ _⟩
  | true =>
   have HE:=hid (show x = thinP n (elim (mP P) r.toNat k.toNat) n∧y = 0 by rw [HZ.out.1,HZ.out.2]; unfold elimS; rw [if_pos HOK.out,← HL.out.2.1,if_pos hh]; exact ⟨rfl,rfl⟩)
   obtain ⟨r',k',rfl,rfl,h1,h2,_⟩:=hasM_in hh
   clear hh
   go_wp2_with fail
   refine (rest_any va n vc (mP P) r' k' _ HM.out hn48 h1 h2).mono ?_
   rintro e w4 ⟨hk,u,rfl,hU⟩
   obtain ⟨ua,uc,rfl⟩:=hU.shape
   have HK:=hid (HK.out.trans hk)
   have HU:=hid hU.mat
   clear hk hU
   go_wp2_with fail
   refine (thin_any ua n uc _ _ HU.out hn48).mono ?_
   rintro e w5 ⟨hk,t,rfl,hT⟩
   have HQ:=hid (And.intro (HK.out.trans hk) (hT.mono HK.out.size))
   clear hk hT
   go_wp2_with fail
   go_ret2
   exact ⟨HQ.out.1,_,by rw [HE.out.2]; rfl,by rw [HE.out.1]; exact HQ.out.2⟩
end Sp
end Go.Proofs.Ytlciijlgiknljaa
