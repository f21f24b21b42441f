/- Squares of bools in rows of their own; make of a row; append of one thing. Lists of lists of whole numbers in rows of their own. Whole numbers, cells and rows of a system, in memory; what is right about them. shuntref13.Same of equal lists; Copy. shuntref13.Price, has. shuntref13.Rest. shuntref13.Full. shuntref13.Choose. shuntref13.Thin. shuntref13's Cost, Best, Eliminate. shuntref13.Order. shuntref13.Fill. -/
import Derived.Test.YtdcgdpbgnijnpaaGreatGah
import Derived.Laws.MakeOwn
import Derived.Deep.DeepCutAuto
import Derived.Test.YtdcgdpbgnijnpaaGreatGac
import Derived.Test.YtdcgdpbgnijnpaaGreatGad
import Derived.Test.YtdcgdpbgnijnpaaGreatGaa
namespace Go.Proofs.YtdcgdpbgnijnpaaGreat
open Go.RowKit
open V (RowL RowL.alloc RowL.lt RowL.cell RowL.fz RowL.kept RowL.block RowL.set RowL.far)
namespace Sp
theorem info_parts {t:TypeId} {x:Value} {s b:Nat} (h:(Tryz.prog.info? t).map (fun i => (i.zero,i.size,i.bytes)) = some (some x,s,b)):∃ i,Tryz.prog.info? t = some i∧i.zero = some x∧i.size = s∧i.bytes = b:=by
 cases hi:Tryz.prog.info? t with
 | none => rw [hi] at h; cases h
 | some i =>
  rw [hi] at h
  simp only [Option.map_some,Option.some.injEq,Prod.mk.injEq] at h
  exact ⟨i,rfl,h.1,h.2.1,h.2.2⟩
theorem info_i64:(Tryz.prog.info? 3).map (fun i => (i.zero,i.size,i.bytes)) = some (some (.int .i64 0),1,8):=by kernel_rfl
theorem info_bool:(Tryz.prog.info? 4).map (fun i => (i.zero,i.size,i.bytes)) = some (some (.bool false),1,1):=by kernel_rfl
theorem info_bools:(Tryz.prog.info? 74).map (fun i => (i.zero,i.size,i.bytes)) = some (some (.slice none 0 0),1,24):=by kernel_rfl
theorem info_ints:(Tryz.prog.info? 41).map (fun i => (i.zero,i.size,i.bytes)) = some (some (.slice none 0 0),1,24):=by kernel_rfl
theorem und_ints:Tryz.prog.underlying 41 = some (.slice 3):=by kernel_rfl
theorem und_intss:Tryz.prog.underlying 108 = some (.slice 41):=by kernel_rfl
theorem und_bools:Tryz.prog.underlying 74 = some (.slice 4):=by kernel_rfl
theorem und_boolss:Tryz.prog.underlying 80 = some (.slice 74):=by kernel_rfl
theorem cell_new (w:World) (x:Value) (t:TypeId):∀ j u,([x]:List Value)[j]? = some u→(w.alloc (.cells #[x] t)).cell? ((⟨w.heap.size,0,none⟩:Addr).add j) = some u:=by
 intro j u hj
 match j,hj with
 | 0,hj => simp at hj; subst hj; simp [Addr.add]
def brow (n:Nat) (f:Nat→Bool):List Value:=(List.range n).map fun k => .bool (f k)
theorem brow_len (n:Nat) (f:Nat→Bool):(brow n f).length = n:=by unfold brow; simp
theorem brow_at {n k:Nat} {f:Nat→Bool} (h:k < n):(brow n f)[k]? = some (.bool (f k)):=by
 unfold brow
 rw [List.getElem?_map,List.getElem?_range h]
 rfl
theorem brow_set {n k:Nat} {f:Nat→Bool} (b:Bool):(brow n f).set k (.bool b) = brow n (fun j => if j = k then b else f j):=by
 apply List.ext_getElem?
 intro j
 by_cases hj:j < n
 ·
  rw [brow_at hj]
  by_cases e:j = k
  ·
   subst e
   rw [List.getElem?_set_self (by rw [brow_len]; exact hj),if_pos rfl]
  ·
   rw [List.getElem?_set_ne (fun h => e h.symm),brow_at hj,if_neg e]
 ·
  rw [List.getElem?_eq_none (by rw [List.length_set,brow_len]; omega),List.getElem?_eq_none (by rw [brow_len]; omega)]
theorem made_bools (n:Nat):madeCells (Value.bool false).cells (n * 1) = (brow n fun _ => false).toArray:=by
 apply Array.ext
 ·
  simp [madeCells,brow]
 ·
  intro i h1 h2
  simp [madeCells,brow,Value.cells]
  rw [Nat.mod_one]
  rfl
theorem make_bools {n:Nat} (hn:n≤1000000) (u:World):(Instr.makeSlice 74 (.int .i64 (n:Int)) (.int .i64 (n:Int))).run Tryz.prog u = .ok (.slice (some ⟨u.heap.size,0,none⟩) n n) (u.alloc (.cells (brow n fun _ => false).toArray 4)):=by
 obtain ⟨i0,hi,hz0,hz1,hz2⟩:=info_parts info_bool
 have h:=run_make (P:=Tryz.prog) u 74 4 i0 (.bool false) und_bools hi hz0 .i64 .i64 (n:Int) (n:Int) (by omega) (Int.le_refl _) (by rw [hz2]; omega) (by omega)
 rw [Int.toNat_natCast,hz1,made_bools] at h
 exact h
theorem own_kept {w w':World} {B:Nat} {e:TypeId} {sz n:Nat} {v:Value} {xs:List Value} (h:w.ownsRow B e sz v n xs) (k:∀ b,v.ownBlock = some b→w'.heap[b]? = w.heap[b]?):w'.ownsRow B e sz v n xs:=by
 obtain ⟨h1,h2 | ⟨g,cap,cur,rfl,h3,h4,h5⟩⟩:=h
 ·
  exact ⟨h1,.inl h2⟩
 ·
  exact ⟨h1,.inr ⟨g,cap,cur,rfl,h3,(k g rfl).trans h4,h5⟩⟩
theorem own_keptK {w w':World} {B:Nat} {e:TypeId} {sz n:Nat} {v:Value} {xs:List Value} (h:w.ownsRow B e sz v n xs) (k:Kept w w'):w'.ownsRow B e sz v n xs:=own_kept h (fun b hb => k.block b (h.lt b hb).2)
theorem own_row {w:World} {B:Nat} {e t:TypeId} {sz n p m:Nat} {v:Value} {xs:List Value} {f:Nat→Value} (h:w.ownsRow B e sz v n xs) (h':w.rowIs p t m f) (hne:e ≠ t):v.ownBlock ≠ some p:=by
 intro hb
 obtain ⟨c,f,h1⟩:=Lib.ownsRow_kind h p hb
 obtain ⟨c',h2,_⟩:=h'
 rw [h1] at h2
 simp at h2
 exact hne h2.2.1
theorem own_shape {w:World} {B:Nat} {e:TypeId} {sz n:Nat} {v:Value} {xs:List Value} (h:w.ownsRow B e sz v n xs):∃ ao cap,v = .slice ao n cap:=by
 obtain ⟨_,⟨h2,h3⟩ | ⟨g,cap,cur,h2,_⟩⟩:=h
 ·
  exact ⟨none,0,by rw [h2,h3]⟩
 ·
  exact ⟨_,_,h2⟩
theorem own_cell {w:World} {B:Nat} {e:TypeId} {sz n:Nat} {v:Value} {xs:List Value} (h:w.ownsRow B e sz v n xs) (h0:0 < n):∃ g cap,v = .slice (some ⟨g,0,none⟩) n cap∧B≤g∧g < w.heap.size∧n≤cap∧(∀ j u,xs[j]? = some u→w.cell? ⟨g,j,none⟩ = some u)∧∀ j,w.frozen? ⟨g,j,none⟩ = false:=by
 obtain ⟨h1,⟨_,h3⟩ | ⟨g,cap,cur,h2,hB,hg,hn,_,hs,ht⟩⟩:=h
 ·
  omega
 ·
  have hlt:g < w.heap.size:=by
   rcases Nat.lt_or_ge g w.heap.size with hlt | hge
   ·
    exact hlt
   ·
    rw [Array.getElem?_eq_none hge] at hg; cases hg
  refine ⟨g,cap,h2,hB,hlt,hn,fun j u hj => ?_,fun j => by simp [World.frozen?,hg]⟩
  have hl:=(List.getElem?_eq_some_iff.1 hj).1
  rw [← ht,List.getElem?_take_of_lt (by omega),Array.getElem?_toList] at hj
  simp [World.cell?,hg,hj]
def MatU (B:Nat) (w:World) (v:Value) (n i:Nat) (m:Nat→Nat→Bool):Prop :=
 ∃ gs:List Nat,gs.length = i∧w.ownsRow B 74 1 v i (gs.map fun g => .slice (some ⟨g,0,none⟩) n n)∧∀ j,j < i→B≤gs.getD j 0∧RowL 4 w (gs.getD j 0) (brow n (m j))
theorem MatU.nil (B:Nat) (w:World) (n:Nat) (m:Nat→Nat→Bool):MatU B w (.slice none 0 0) n 0 m:=⟨[],rfl,World.ownsRow_nil _ _ _ _,fun _ hj => absurd hj (Nat.not_lt_zero _)⟩
theorem MatU.kept {B:Nat} {w w':World} {v:Value} {n i:Nat} {m:Nat→Nat→Bool} (h:MatU B w v n i m) (k:Kept w w'):MatU B w' v n i m:=by
 obtain ⟨gs,h1,h2,h3⟩:=h
 exact ⟨gs,h1,own_keptK h2 k,fun j hj => ⟨(h3 j hj).1,(h3 j hj).2.kept k⟩⟩
theorem MatU.snoc {B:Nat} {w w':World} {v:Value} {n i g G cap:Nat} {m:Nat→Nat→Bool} (h:∃ gs:List Nat,gs.length = i∧w'.ownsRow B 74 1 (.slice (some ⟨G,0,none⟩) (i + 1) cap) (i + 1) ((gs.map fun g => Value.slice (some ⟨g,0,none⟩) n n) ++ [.slice (some ⟨g,0,none⟩) n n])∧∀ j,j < i→B≤gs.getD j 0∧RowL 4 w (gs.getD j 0) (brow n (m j))) (hb:∀ p xs,RowL 4 w p xs→RowL 4 w' p xs) (hr:RowL 4 w g (brow n (m i))) (hB:B≤g) (hv:v = .slice (some ⟨G,0,none⟩) (i + 1) cap):MatU B w' v n (i + 1) m:=by
 obtain ⟨gs,h1,h2,h3⟩:=h
 subst hv
 refine ⟨gs ++ [g],by rw [List.length_append,h1]; rfl,by rw [List.map_append]; exact h2,fun j hj => ?_⟩
 by_cases e:j < i
 ·
  rw [List.getD_eq_getElem?_getD,List.getElem?_append_left (by omega),← List.getD_eq_getElem?_getD]
  exact ⟨(h3 j e).1,hb _ _ (h3 j e).2⟩
 ·
  obtain rfl:j = i:=by omega
  rw [List.getD_eq_getElem?_getD,List.getElem?_append_right (by omega),h1,Nat.sub_self]
  exact ⟨hB,hb _ _ hr⟩
theorem MatU.mat {B:Nat} {w:World} {v:Value} {n:Nat} {m:Nat→Nat→Bool} (h:MatU B w v n n m):MatR w v n m:=by
 obtain ⟨gs,h1,h2,h3⟩:=h
 by_cases h0:0 < n
 ·
  obtain ⟨g,cap,rfl,_,hg,_,hc,_⟩:=own_cell h2 h0
  refine ⟨_,_,rfl,fun _ => ⟨g,0,rfl,hg,fun i hi => ⟨gs.getD i 0,0,n,?_,(h3 i hi).2.lt,fun j hj => ?_⟩⟩⟩
  ·
   rw [Nat.zero_add]
   refine hc i _ ?_
   rw [List.getElem?_map,List.getD_eq_getElem?_getD,List.getElem?_eq_getElem (by omega)]
   rfl
  ·
   rw [Nat.zero_add]
   exact (h3 i hi).2.cell j _ (brow_at hj)
 ·
  obtain ⟨ao,cap,rfl⟩:=own_shape h2
  exact ⟨_,_,rfl,fun h => absurd h h0⟩
def mP (P:List (List Int)) (i k:Nat):Bool:=decide ((k:Int) ∈ P.getD i [])
theorem rowOk_mem {n:Nat}:∀ {l:List Int} {last:Int},rowOk n last l = true→∀ x ∈ l,last < x∧x < (n:Int):=by
 intro l
 induction l with
 | nil => intro last _ x hx; cases hx
 | cons y t ih =>
  intro last h x hx
  unfold rowOk at h
  simp only [Bool.and_eq_true,decide_eq_true_eq] at h
  rcases List.mem_cons.1 hx with rfl | hx
  ·
   exact h.1
  ·
   have:=ih h.2 x hx
   omega
theorem okP_row {P:List (List Int)} (h:okP P = true) {i:Nat} (hi:i < P.length):rowOk P.length (-1) (P.getD i []) = true:=by
 unfold okP at h
 rw [Bool.and_eq_true,List.all_eq_true] at h
 rw [List.getD_eq_getElem?_getD,List.getElem?_eq_getElem hi]
 exact h.2 _ (List.getElem_mem hi)
theorem okP_mem {P:List (List Int)} (h:okP P = true) {i:Nat} (hi:i < P.length):∀ x ∈ P.getD i [],0≤x∧x < (P.length:Int):=fun x hx => by
 have:=rowOk_mem (okP_row h hi) x hx
 omega
theorem okP_len {P:List (List Int)} (h:okP P = true):P.length≤48:=by
 unfold okP at h
 rw [Bool.and_eq_true,decide_eq_true_eq] at h
 exact h.1
theorem rowOk_long {n:Nat}:∀ {l:List Int} {last:Int},rowOk n last l = true→last < (n:Int)→(l.length:Int) + last < (n:Int):=by
 intro l
 induction l with
 | nil => intro last _ h; simpa using h
 | cons y t ih =>
  intro last h hl
  unfold rowOk at h
  simp only [Bool.and_eq_true,decide_eq_true_eq] at h
  have:=ih h.2 h.1.2
  rw [List.length_cons]
  omega
end Sp
end Go.Proofs.YtdcgdpbgnijnpaaGreat

namespace Go.Proofs.YtdcgdpbgnijnpaaGreat
open Go.RowKit
open V (RowL RowL.alloc RowL.lt RowL.cell RowL.fz RowL.kept RowL.block RowL.set RowL.far)
namespace Sp
theorem own_mono {w:World} {B B':Nat} {e:TypeId} {sz n:Nat} {v:Value} {xs:List Value} (h:w.ownsRow B e sz v n xs) (hB:B'≤B):w.ownsRow B' e sz v n xs:=by
 obtain ⟨h1,h2 | ⟨g,cap,cur,h2,h3,h4⟩⟩:=h
 ·
  exact ⟨h1,.inl h2⟩
 ·
  exact ⟨h1,.inr ⟨g,cap,cur,h2,by omega,h4⟩⟩
theorem own_apart {w:World} {B B':Nat} {e e':TypeId} {sz n sz' n':Nat} {v v':Value} {xs xs':List Value} (h:w.ownsRow B e sz v n xs) (h':w.ownsRow B' e' sz' v' n' xs') (hne:e ≠ e'):∀ b,v.ownBlock = some b→v'.ownBlock ≠ some b:=by
 intro b hb hb'
 obtain ⟨c,f,h1⟩:=Lib.ownsRow_kind h b hb
 obtain ⟨c',f',h2⟩:=Lib.ownsRow_kind h' b hb'
 rw [h1] at h2
 simp at h2
 exact hne h2.2.1
def OwnI (B:Nat) (w:World) (v:Value) (l:List Int):Prop:=w.ownsRow B 3 1 v l.length (l.map (Value.int .i64))
theorem OwnI.isl {B:Nat} {w:World} {v:Value} {l:List Int} (h:OwnI B w v l):ISl w v l:=by
 by_cases h0:0 < l.length
 ·
  obtain ⟨g,cap,rfl,_,hg,_,hc,_⟩:=own_cell h h0
  refine ⟨_,_,rfl,fun _ => ⟨g,0,rfl,hg,fun j hj => ?_⟩⟩
  rw [Nat.zero_add]
  exact hc _ _ (by simp [hj])
 ·
  obtain ⟨ao,cap,rfl⟩:=own_shape h
  exact ⟨_,_,rfl,fun h => absurd h h0⟩
theorem OwnI.snoc {B:Nat} {w:World} {v:Value} {l:List Int} {x:Int} (h:w.ownsRow B 3 1 v (l.length + 1) (l.map (Value.int .i64) ++ [.int .i64 x])):OwnI B w v (l ++ [x]):=by
 unfold OwnI
 rw [List.length_append,List.map_append]
 exact h
def PatU (B:Nat) (w:World) (v:Value) (P:List (List Int)):Prop :=
 ∃ hs:List Value,hs.length = P.length∧w.ownsRow B 41 1 v P.length hs∧∀ j,j < P.length→OwnI B w (hs.getD j undef) (P.getD j [])
theorem PatU.nil (B:Nat) (w:World):PatU B w (.slice none 0 0) []:=⟨[],rfl,World.ownsRow_nil _ _ _ _,fun _ hj => absurd hj (Nat.not_lt_zero _)⟩
theorem PatU.kept {B:Nat} {w w':World} {v:Value} {P:List (List Int)} (h:PatU B w v P) (k:Kept w w'):PatU B w' v P:=by
 obtain ⟨hs,h1,h2,h3⟩:=h
 exact ⟨hs,h1,own_keptK h2 k,fun j hj => own_keptK (h3 j hj) k⟩
theorem PatU.mono {B B':Nat} {w:World} {v:Value} {P:List (List Int)} (h:PatU B w v P) (hB:B'≤B):PatU B' w v P:=by
 obtain ⟨hs,h1,h2,h3⟩:=h
 exact ⟨hs,h1,own_mono h2 hB,fun j hj => own_mono (h3 j hj) hB⟩
theorem getD_snoc {α:Type} (l:List α) (x d:α) (j:Nat):(l ++ [x]).getD j d = if j < l.length then l.getD j d else if j = l.length then x else d:=by
 rw [List.getD_eq_getElem?_getD]
 by_cases h:j < l.length
 ·
  rw [if_pos h,List.getElem?_append_left h,← List.getD_eq_getElem?_getD]
 ·
  rw [if_neg h,List.getElem?_append_right (by omega)]
  by_cases e:j = l.length
  ·
   rw [if_pos e,e,Nat.sub_self]; rfl
  ·
   rw [if_neg e,List.getElem?_eq_none (by simp; omega)]; rfl
theorem PatU.snoc {B:Nat} {w w':World} {G cap:Nat} {P:List (List Int)} {hs:List Value} {x:Value} {l:List Int} (h1:hs.length = P.length) (h2:w'.ownsRow B 41 1 (.slice (some ⟨G,0,none⟩) (P.length + 1) cap) (P.length + 1) (hs ++ [x])) (h3:∀ j,j < P.length→OwnI B w (hs.getD j undef) (P.getD j [])) (hb:∀ v l,OwnI B w v l→OwnI B w' v l) (hx:OwnI B w x l):PatU B w' (.slice (some ⟨G,0,none⟩) (P.length + 1) cap) (P ++ [l]):=by
 refine ⟨hs ++ [x],by rw [List.length_append,List.length_append,h1]; rfl,by rw [List.length_append]; exact h2,fun j hj => ?_⟩
 rw [List.length_append] at hj
 have hj:j < P.length + 1:=hj
 rw [getD_snoc,getD_snoc,h1]
 by_cases e:j < P.length
 ·
  rw [if_pos e,if_pos e]
  exact hb _ _ (h3 j e)
 ·
  rw [if_neg e,if_neg e,if_pos (by omega),if_pos (by omega)]
  exact hb _ _ hx
theorem PatU.pat {B:Nat} {w:World} {v:Value} {P:List (List Int)} (h:PatU B w v P):PatR w v P:=by
 obtain ⟨hs,h1,h2,h3⟩:=h
 by_cases h0:0 < P.length
 ·
  obtain ⟨g,cap,rfl,_,hg,_,hc,_⟩:=own_cell h2 h0
  refine ⟨_,_,rfl,fun _ => ⟨g,0,rfl,hg,fun i hi => ?_⟩⟩
  obtain ⟨ra,rc,e⟩:=own_shape (h3 i hi)
  have h4:=(h3 i hi).isl
  rw [e] at h4
  refine ⟨ra,rc,?_,h4⟩
  rw [Nat.zero_add,← e]
  refine hc i _ ?_
  rw [List.getD_eq_getElem?_getD,List.getElem?_eq_getElem (by omega)]
  rfl
 ·
  obtain ⟨ao,cap,rfl⟩:=own_shape h2
  exact ⟨_,_,rfl,fun h => absurd h h0⟩
def thinR (m:Nat→Nat→Bool) (i k:Nat):List Int:=((List.range k).filter (m i)).map Int.ofNat
def thinP (n:Nat) (m:Nat→Nat→Bool) (i:Nat):List (List Int):=(List.range i).map fun i => thinR m i n
theorem thinR_len (m:Nat→Nat→Bool) (i k:Nat):(thinR m i k).length≤k:=by
 unfold thinR
 have:=List.length_filter_le (m i) (List.range k)
 rw [List.length_range] at this
 rw [List.length_map]
 exact this
theorem thinP_len (n:Nat) (m:Nat→Nat→Bool) (i:Nat):(thinP n m i).length = i:=by
 unfold thinP
 simp
end Sp
end Go.Proofs.YtdcgdpbgnijnpaaGreat

namespace Go.Proofs.YtdcgdpbgnijnpaaGreat
open Go.RowKit
namespace Sy
open Sp (hid)
theorem alloc_sz (w:World) (o:Obj):(w.alloc o).heap.size = w.heap.size + 1:=by simp
structure ZE where
 neg:Bool
 ao:Option Addr
 cap:Nat
 lim:List Nat
def ZE.v (z:ZE):Value:=.slice z.ao z.lim.length z.cap
def ZE.cells (z:ZE):List Value:=[.bool z.neg,z.v]
def ZE.ok (w:World) (z:ZE):Prop:=Sl w z.v z.lim∧z.lim.length≤9223372036854775807
theorem ZE.ok.kept {w w':World} {z:ZE} (h:z.ok w) (k:Kept w w'):z.ok w':=⟨h.1.kept k,h.2⟩
def ZE.right (z:ZE):Bool:=decide (z.lim.length≤72) && (if z.lim.length = 0 then !z.neg else decide (z.lim.getD (z.lim.length - 1) 0 ≠ 0))
def ZE.nought (z:ZE):Bool:=decide (z.lim.length = 0)
theorem right_R {z:ZE}:z.right = true ↔ R z.neg z.lim:=by
 unfold ZE.right R
 rw [Bool.and_eq_true,decide_eq_true_eq]
 by_cases h:z.lim.length = 0
 ·
  rw [if_pos h]
  constructor
  ·
   rintro ⟨h1,h2⟩
   exact ⟨h1,fun _ => by simpa using h2,fun h0 => by omega⟩
  ·
   rintro ⟨h1,h2,_⟩
   exact ⟨h1,by simpa using h2 h⟩
 ·
  rw [if_neg h,decide_eq_true_eq]
  constructor
  ·
   rintro ⟨h1,h2⟩
   exact ⟨h1,fun h0 => absurd h0 h,fun _ => h2⟩
  ·
   rintro ⟨h1,_,h3⟩
   exact ⟨h1,h3 (by omega)⟩
structure CE where
 col:Int
 val:ZE
def CE.cells (c:CE):List Value:=.int .i64 c.col :: c.val.cells
def CE.ok (w:World) (c:CE):Prop:=c.val.ok w
def LR {α:Type} (sz:Nat) (cells:α→List Value) (ok:World→α→Prop) (w:World) (ao:Option Addr) (L:List α):Prop :=
 0 < L.length→∃ b off:Nat,ao = some ⟨b,off,none⟩∧b < w.heap.size∧∀ i (h:i < L.length),(∀ j u,(cells L[i])[j]? = some u→w.cell? ⟨b,off + i * sz + j,none⟩ = some u)∧ok w L[i]
theorem LR.kept {α:Type} {sz:Nat} {cells:α→List Value} {ok:World→α→Prop} {w w':World} {ao:Option Addr} {L:List α} (h:LR sz cells ok w ao L) (k:Kept w w') (ho:∀ a,ok w a→ok w' a):LR sz cells ok w' ao L:=by
 intro h0
 obtain ⟨b,off,rfl,hlt,hx⟩:=h h0
 refine ⟨b,off,rfl,Nat.lt_of_lt_of_le hlt k.size,fun i hi => ⟨fun j u hu => ?_,ho _ (hx i hi).2⟩⟩
 rw [Below.cell k (p:=⟨b,off + i * sz + j,none⟩) hlt]
 exact (hx i hi).1 j u hu
theorem LR.at {α:Type} {sz:Nat} {cells:α→List Value} {ok:World→α→Prop} {w:World} {ao:Option Addr} {L:List α} (h:LR sz cells ok w ao L) {i:Nat} (hi:i < L.length):∃ b off:Nat,ao = some ⟨b,off,none⟩∧b < w.heap.size∧(∀ j u,(cells L[i])[j]? = some u→∀ V,Kept w V→V.cell? ⟨b,off + i * sz + j,none⟩ = some u)∧ok w L[i]:=by
 obtain ⟨b,off,rfl,hlt,hx⟩:=h (by omega)
 exact ⟨b,off,rfl,hlt,fun j u hu V K => by rw [Below.cell K (p:=⟨b,off + i * sz + j,none⟩) hlt]; exact (hx i hi).1 j u hu,(hx i hi).2⟩
abbrev CsR:=LR 3 CE.cells CE.ok
theorem csr_kept {w w':World} {ao:Option Addr} {L:List CE} (h:CsR w ao L) (k:Kept w w'):CsR w' ao L:=LR.kept h k (fun _ ho => ZE.ok.kept ho k)
structure LE where
 ao:Option Addr
 cap:Nat
 cs:List CE
def LE.v (l:LE):Value:=.slice l.ao l.cs.length l.cap
structure RE where
 mult:ZE
 A:LE
 H:LE
 S:LE
 K:ZE
def RE.cells (r:RE):List Value:=r.mult.cells ++ [r.A.v,r.H.v,r.S.v] ++ r.K.cells
def RE.ok (w:World) (r:RE):Prop:=r.mult.ok w∧CsR w r.A.ao r.A.cs∧CsR w r.H.ao r.H.cs∧CsR w r.S.ao r.S.cs∧r.K.ok w
theorem RE.ok.kept {w w':World} {r:RE} (h:r.ok w) (k:Kept w w'):r.ok w':=⟨h.1.kept k,csr_kept h.2.1 k,csr_kept h.2.2.1 k,csr_kept h.2.2.2.1 k,h.2.2.2.2.kept k⟩
abbrev RsR:=LR 7 RE.cells RE.ok
def cOk (n:Nat):Int→List CE→Bool
 | _,[] => true
 | last,c :: t => ((decide (last < c.col) && decide (c.col < (n:Int))) && (c.val.right && !c.val.nought)) && cOk n c.col t
def rOk (n:Nat) (r:RE):Bool:=((((((r.mult.right && !r.mult.neg) && !r.mult.nought) && r.K.right) && cOk n (-1) r.A.cs) && cOk n (-1) r.H.cs) && cOk 64 (-1) r.S.cs)
def sOk (rs:List RE):Bool:=decide (rs.length≤48) && rs.all (rOk rs.length)
def chkY (rs:List RE):Int:=if sOk rs = true then 0 else 130
theorem cOk_at {n:Nat} {L:List CE} {k:Nat} (hk:k < L.length) (last:Int):cOk n last (L.drop k) = (((decide (last < L[k].col) && decide (L[k].col < (n:Int))) && (L[k].val.right && !L[k].val.nought)) && cOk n L[k].col (L.drop (k + 1))):=by
 rw [List.drop_eq_getElem_cons hk]
 rfl
def colsOf (L:List CE):List Int:=L.map CE.col
def patOf (rs:List RE):List (List Int):=rs.map fun r => colsOf r.A.cs
end Sy
end Go.Proofs.YtdcgdpbgnijnpaaGreat

namespace Go.Proofs.YtdcgdpbgnijnpaaGreat
open Go.RowKit
open V (RowL RowL.alloc RowL.lt RowL.cell RowL.fz RowL.kept RowL.block RowL.set RowL.far)
namespace Sp
theorem wpList_src {P:Program} {w:World} {ops:Array Oper} {rest:List Oper} {o:Oper} {a:Act} {Q:Exit→Act→World→Prop} (hgd:o.guard = none) (s x:Operand) (t:TypeId)
  (ho:o.op = .call { callee:=.builtin .append,args:=#[s,x],argTypes:=#[t,t] })
  (base:Nat) (e:TypeId) (i:TypeInfo) (zv:Value) (size bytes:Nat) (ht:P.underlying t = some (.slice e)) (hi:P.info? e = some i) (hz:i.zero = some zv)
  (hsize:i.size = size) (hby:i.bytes = bytes) (hzs:zv.cells.size = size) (hsz:0 < size)
  (g0:Nat) (hs:a.eval s = .slice (some ⟨g0,0,none⟩) 0 0) (hown:w.ownsRow base e size (.slice (some ⟨g0,0,none⟩) 0 0) 0 [])
  (ao:Option Addr) (m c:Nat) (news:List Value) (hx:a.eval x = .slice ao m c) (hl:news.length = m * size) (hnews:0 < m→∃ ad,ao = some ad∧∀ j u,news[j]? = some u→w.cell? (ad.add j) = some u) (h1:∀ u ∈ news,u.oneCell' = true)
  (h63:m≤maxLen) (hbytes:m * bytes≤140737488355328) (hbase:base≤w.heap.size)
  (h:∀ g cap w',w'.ownsRow base e size (.slice (some ⟨g,0,none⟩) m cap) m news→w.grownBy w' (some g0)→wpList P ops Q rest (a.put o.dst (.slice (some ⟨g,0,none⟩) m cap)) w'):wpList P ops Q (o :: rest) a w:=by
 by_cases hm:0 < m
 ·
  obtain ⟨ad,rfl,hn⟩:=hnews hm
  exact wpList_append_lies w hgd s x t ho base e i zv size bytes ht hi hz hsize hby hzs hsz _ 0 [] hs hown ad m c news hx hl hn h1 hm (by omega) (by rw [Nat.zero_add]; exact hbytes) hbase _ rfl (fun g cap w' h2 h3 _ _ => by
   have:=h g cap w' (by simpa using h2) h3
   rw [Nat.zero_add]
   exact this)
 ·
  obtain rfl:m = 0:=by omega
  have hn0:news = []:=List.eq_nil_of_length_eq_zero (by simpa using hl)
  subst hn0
  have hr:(Builtin.append_ #[t,t] o.type #[.slice (some ⟨g0,0,none⟩) 0 0,.slice ao 0 c]).run P w = .ok (.slice (some ⟨g0,0,none⟩) 0 0) w:=by
   cases ao <;> simp [Builtin.append_,run_underlying ht,sizeOf,typeInfo,hi,Builtin.lenOf,Builtin.firstCells,loadCells,loadCellsFrom,storeCells]
  refine wpList_plain hgd fun K hK => ?_
  unfold Oper.wp execOp
  simp only [ho,resolve,invoke,builtin,Sem.run_bind,Sem.run_pure,Result.andThen_ok,List.map_toArray,List.map_cons,List.map_nil,hs,hx,hr]
  exact hK _ _ (h g0 0 w hown ⟨rfl,rfl,rfl,Nat.le_refl _,fun _ _ _ => rfl⟩)
theorem own_none (t:TypeId) (sz:Nat) (w:World) (B:Nat) (hB:B≤w.heap.size):(w.alloc (Obj.cells #[] t)).ownsRow B t sz (.slice (some ⟨w.heap.size,0,none⟩) 0 0) 0 []:=by
 refine ⟨by simp,.inr ⟨w.heap.size,0,#[],rfl,hB,?_,Nat.le_refl _,by unfold maxLen; omega,by simp,by simp⟩⟩
 show (w.heap.push _)[w.heap.size]? = _
 simp
theorem addr_add (b off j:Nat):(⟨b,off,none⟩:Addr).add j = ⟨b,off + j,none⟩:=by
 unfold Addr.add
 by_cases hj0:j = 0 <;> simp [hj0]
end Sp
end Go.Proofs.YtdcgdpbgnijnpaaGreat

namespace Go.Proofs.YtdcgdpbgnijnpaaGreat
open Go.RowKit
namespace Sp
theorem cnt_succ (p:Nat→Bool) (i:Nat):((List.range (i + 1)).filter p).length = ((List.range i).filter p).length + (if p i = true then 1 else 0):=by
 rw [List.range_succ,List.filter_append,List.length_append]
 by_cases h:p i = true
 ·
  rw [if_pos h,List.filter_cons,if_pos h]; rfl
 ·
  rw [if_neg h,List.filter_cons,if_neg h]; rfl
theorem cnt_le (p:Nat→Bool) (i:Nat):((List.range i).filter p).length≤i:=by
 have:=List.length_filter_le p (List.range i)
 rwa [List.length_range] at this
set_option maxRecDepth 100000 in
set_option maxHeartbeats 8000000 in
theorem price_any (ao:Option Addr) (n c:Nat) (m:Nat→Nat→Bool) (r k:Nat) (w:World) (h:MatR w (.slice ao n c) n m) (hn:n≤48) (hr:r < n) (hk:k < n) :
  Calls Tryz.prog 54 #[.slice ao n c,.int .i64 (r:Int),.int .i64 (k:Int)] w fun e w' => w' = w∧e = .returned (.int .i64 (cost n m r k)):=by
 obtain ⟨b,off,rfl,rb,ro,rc,hR,hRc⟩:=h.row hr
 have HL:=hid h
 have HR:=hid (And.intro hR hRc)
 have HZ:=hid (show cost n m r k = ((((List.range n).filter (m r)).length:Int) - 1) * ((((List.range n).filter fun i => m i k).length:Int) - 1) from rfl)
 generalize cost n m r k = z at HZ ⊢
 have hri:(r:Int) < (n:Int):=by omega
 have hr0:(0:Int)≤(r:Int):=by omega
 have hki:(k:Int) < (n:Int):=by omega
 have hk0:(0:Int)≤(k:Int):=by omega
 clear h hR hRc
 go_enter Tryz.func54,Tryz.ntmps54
 go_wp2_with fail
 go_loopw [7,8,9] (fun v7 v8 v9 wr => ∃ (i x y:Nat),i≤n∧v7 = .int .i64 (x:Int)∧v8 = .int .i64 (y:Int)∧v9 = .int .i64 (i:Int)∧x≤i∧y≤i∧wr = w∧Hid (x = ((List.range i).filter (m r)).length∧y = ((List.range i).filter fun i => m i k).length)) (fun _ _ v9 _ => n - (intOf v9).toNat)
 case atStart => exact ⟨0,0,0,Nat.zero_le _,rfl,rfl,rfl,Nat.le_refl _,Nat.le_refl _,rfl,rfl,rfl⟩
 case round =>
  obtain ⟨i,x,y,hil,rfl,rfl,rfl,hx,hy,rfl,H⟩:=hrel
  by_cases hit:i < n
  ·
   have hii:(i:Int) < (n:Int):=by omega
   have hi0:(0:Int)≤(i:Int):=by omega
   obtain ⟨b',off',e,qb,qo,qc,hQ,hQc⟩:=HL.out.row hit
   simp only [Option.some.injEq,Addr.mk.injEq,and_true] at e
   obtain ⟨rfl,rfl⟩:=e
   have c1:=HR.out.1 _ (Kept.refl _)
   have c2:=HR.out.2 i hit _ (Kept.refl _)
   have c3:=hQ _ (Kept.refl _)
   have c4:=hQc k hk _ (Kept.refl _)
   have HS:=hid (And.intro (cnt_succ (m r) i) (cnt_succ (fun i => m i k) i))
   clear hQ hQc
   --%A
   cases h1:m r i with
   | false =>
    cases h2:m i k with
    | false =>
     rw [h1] at c2
     rw [h2] at c4
     have HE:=hid (show x = ((List.range (i + 1)).filter (m r)).length∧y = ((List.range (i + 1)).filter fun i => m i k).length by rw [HS.out.1,HS.out.2,h1,h2,H.out.1,H.out.2]; exact ⟨rfl,rfl⟩)
     clear h1 h2 H HS
     go_wp2_with fail
     go_roundw
     case rel => exact ⟨i + 1,x,y,by omega,rfl,rfl,by go_num,by omega,by omega,by first | rfl | trivial,HE.out⟩
     case measure => show n - ((i:Int) + 1).toNat < n - (i:Int).toNat; omega
    | true =>
     rw [h1] at c2
     rw [h2] at c4
     have HE:=hid (show x = ((List.range (i + 1)).filter (m r)).length∧y + 1 = ((List.range (i + 1)).filter fun i => m i k).length by rw [HS.out.1,HS.out.2,h1,h2,H.out.1,H.out.2]; exact ⟨rfl,rfl⟩)
     clear h1 h2 H HS
     go_wp2_with fail
     go_roundw
     case rel => exact ⟨i + 1,x,y + 1,by omega,rfl,by go_num,by go_num,by omega,by omega,by first | rfl | trivial,HE.out⟩
     case measure => show n - ((i:Int) + 1).toNat < n - (i:Int).toNat; omega
   | true =>
    cases h2:m i k with
    | false =>
     rw [h1] at c2
     rw [h2] at c4
     have HE:=hid (show x + 1 = ((List.range (i + 1)).filter (m r)).length∧y = ((List.range (i + 1)).filter fun i => m i k).length by rw [HS.out.1,HS.out.2,h1,h2,H.out.1,H.out.2]; exact ⟨rfl,rfl⟩)
     clear h1 h2 H HS
     go_wp2_with fail
     go_roundw
     case rel => exact ⟨i + 1,x + 1,y,by omega,by go_num,rfl,by go_num,by omega,by omega,by first | rfl | trivial,HE.out⟩
     case measure => show n - ((i:Int) + 1).toNat < n - (i:Int).toNat; omega
    | true =>
     rw [h1] at c2
     rw [h2] at c4
     have HE:=hid (show x + 1 = ((List.range (i + 1)).filter (m r)).length∧y + 1 = ((List.range (i + 1)).filter fun i => m i k).length by rw [HS.out.1,HS.out.2,h1,h2,H.out.1,H.out.2]; exact ⟨rfl,rfl⟩)
     clear h1 h2 H HS
     go_wp2_with fail
     go_roundw
     case rel => exact ⟨i + 1,x + 1,y + 1,by omega,by go_num,by go_num,by go_num,by omega,by omega,by first | rfl | trivial,HE.out⟩
     case measure => show n - ((i:Int) + 1).toNat < n - (i:Int).toNat; omega
  ·
   have hii:¬ (i:Int) < (n:Int):=by omega
   obtain rfl:i = n:=by omega
   have hb1:((x:Int) - 1) * ((y:Int) - 1)≤2304:=by
    have h1:((x:Int) - 1) * ((y:Int) - 1)≤48 * 48:=by
     rcases Nat.eq_zero_or_pos x with h | h <;> rcases Nat.eq_zero_or_pos y with h' | h'
     ·
      subst h h'; decide
     ·
      subst h; have:(y:Int) - 1 ≥ 0:=by omega
      omega
     ·
      subst h'; omega
     ·
      exact Int.mul_le_mul (by omega) (by omega) (by omega) (by omega)
    omega
   have hb2:-48≤((x:Int) - 1) * ((y:Int) - 1):=by
    rcases Nat.eq_zero_or_pos x with h | h <;> rcases Nat.eq_zero_or_pos y with h' | h'
    ·
     subst h h'; decide
    ·
     subst h; omega
    ·
     subst h'; omega
    ·
     have:=Int.mul_nonneg (show (0:Int)≤(x:Int) - 1 by omega) (show (0:Int)≤(y:Int) - 1 by omega)
     omega
   have HE:=hid (show z = ((x:Int) - 1) * ((y:Int) - 1) by rw [HZ.out,← H.out.1,← H.out.2])
   go_wp2_with fail
   go_ret
   exact ⟨rfl,by rw [HE.out]; rfl⟩
def hasM (n:Nat) (m:Nat→Nat→Bool) (r k:Int):Bool:=decide (0≤r) && (decide (r < (n:Int)) && (decide (0≤k) && (decide (k < (n:Int)) && m r.toNat k.toNat)))
end Sp
end Go.Proofs.YtdcgdpbgnijnpaaGreat

namespace Go.Proofs.YtdcgdpbgnijnpaaGreat
open Go.RowKit
open V (RowL RowL.alloc RowL.lt RowL.cell RowL.fz RowL.kept RowL.block RowL.set RowL.far)
namespace Sp
def qF (m:Nat→Nat→Bool) (r c i:Nat):Nat→Bool:=fun k => !m i k && (m i c && m r k)
def eU (m:Nat→Nat→Bool) (r c i kk:Nat):Nat→Bool:=fun j => decide (j < kk) && (m i j || (m i c && m r j))
def fillU (n:Nat) (m:Nat→Nat→Bool) (r c i:Nat):Nat:=((List.range i).map fun i => ((List.range n).filter (qF m r c i)).length).sum
end Sp
end Go.Proofs.YtdcgdpbgnijnpaaGreat

namespace Go.Proofs.YtdcgdpbgnijnpaaGreat
open Go.RowKit
open V (RowL RowL.alloc RowL.lt RowL.cell RowL.fz RowL.kept RowL.block RowL.set RowL.far)
namespace Sp
theorem take_mem {l:List Int} {k:Nat} (hk:k < l.length) (x:Int):x ∈ l.take (k + 1) ↔ x = l.getD k 0 ∨ x ∈ l.take k:=by
 rw [List.take_succ_eq_append_getElem hk,List.mem_append,List.mem_singleton,List.getD_eq_getElem?_getD,List.getElem?_eq_getElem hk]
 exact Or.comm
def mT (l:List Int) (k:Nat):Nat→Bool:=fun c => decide ((c:Int) ∈ l.take k)
theorem mT_step {l:List Int} {k x:Nat} (hk:k < l.length) (hx:l.getD k 0 = (x:Int)):(fun j => if j = x then true else mT l k j) = mT l (k + 1):=by
 funext j
 unfold mT
 by_cases e:j = x
 ·
  rw [if_pos e,e]
  exact (decide_eq_true ((take_mem hk _).2 (Or.inl hx.symm))).symm
 ·
  rw [if_neg e]
  rw [Bool.eq_iff_iff,decide_eq_true_eq,decide_eq_true_eq,take_mem hk,hx]
  constructor
  ·
   exact Or.inr
  ·
   rintro (h | h)
   ·
    exact absurd (by omega) e
   ·
    exact h
end Sp
end Go.Proofs.YtdcgdpbgnijnpaaGreat

namespace Go.Proofs.YtdcgdpbgnijnpaaGreat
open Go.RowKit
namespace Sp
def sqUp (n i k:Nat):List (Nat × Nat):=((List.range i).flatMap fun i => (List.range n).map fun k => (i,k)) ++ (List.range k).map fun k => (i,k)
def bestUp (n:Nat) (m:Nat→Nat→Bool) (i k:Nat):Option (Nat × Nat):=(sqUp n i k).foldl (less n m) none
theorem bestUp_step (n:Nat) (m:Nat→Nat→Bool) (i k:Nat):bestUp n m i (k + 1) = less n m (bestUp n m i k) (i,k):=by
 unfold bestUp sqUp
 rw [List.range_succ,List.map_append,← List.append_assoc,List.foldl_append]
 rfl
theorem bestUp_row (n:Nat) (m:Nat→Nat→Bool) (i:Nat):bestUp n m (i + 1) 0 = bestUp n m i n:=by
 unfold bestUp sqUp
 rw [List.range_succ,List.flatMap_append]
 simp
theorem bestUp_all (n:Nat) (m:Nat→Nat→Bool):bestUp n m n 0 = bestOf n m:=by
 unfold bestUp sqUp bestOf square
 simp
theorem bestUp_in {n:Nat} {m:Nat→Nat→Bool}:∀ {i k:Nat},i≤n→k≤n→(k = 0 ∨ i < n)→∀ q,bestUp n m i k = some q→q.1 < n∧q.2 < n:=by
 intro i k hi hk hik q h
 have h1:IsLeast n m (sqUp n i k) (bestUp n m i k):=by
  have hw:(sqUp n i k).Pairwise ahead:=by
   unfold sqUp
   rw [List.pairwise_append,List.pairwise_flatMap]
   refine ⟨⟨fun i _ => ?_,?_⟩,?_,?_⟩
   ·
    rw [List.pairwise_map]
    exact List.pairwise_lt_range.imp fun h => Or.inr ⟨rfl,h⟩
   ·
    refine List.pairwise_lt_range.imp fun {i j} h x hx y hy => ?_
    obtain ⟨_,_,rfl⟩:=List.mem_map.1 hx
    obtain ⟨_,_,rfl⟩:=List.mem_map.1 hy
    exact Or.inl h
   ·
    rw [List.pairwise_map]
    exact List.pairwise_lt_range.imp fun h => Or.inr ⟨rfl,h⟩
   ·
    intro x hx y hy
    obtain ⟨j,hj,hx⟩:=List.mem_flatMap.1 hx
    obtain ⟨_,_,rfl⟩:=List.mem_map.1 hx
    obtain ⟨_,_,rfl⟩:=List.mem_map.1 hy
    exact Or.inl (List.mem_range.1 hj)
  have:=least_all n m (sqUp n i k) [] none hw (fun p hp => by cases hp)
  exact this
 rw [h] at h1
 have h2:=h1.1
 unfold sqUp at h2
 rcases List.mem_append.1 h2 with h2 | h2
 ·
  obtain ⟨j,hj,hx⟩:=List.mem_flatMap.1 h2
  obtain ⟨j',hj',rfl⟩:=List.mem_map.1 hx
  have:=List.mem_range.1 hj
  have:=List.mem_range.1 hj'
  exact ⟨by show j < n; omega,by show j' < n; omega⟩
 ·
  obtain ⟨j',hj',rfl⟩:=List.mem_map.1 h2
  have:=List.mem_range.1 hj'
  exact ⟨by show i < n; omega,by show j' < n; omega⟩
def rO (o:Option (Nat × Nat)):Nat:=match o with | none => 0 | some q => q.1
def cO (o:Option (Nat × Nat)):Nat:=match o with | none => 0 | some q => q.2
set_option maxRecDepth 100000 in
set_option maxHeartbeats 8000000 in
theorem choose_any (ao:Option Addr) (n c:Nat) (m:Nat→Nat→Bool) (w:World) (h:MatR w (.slice ao n c) n m) (hn:n≤48) :
  Calls Tryz.prog 27 #[.slice ao n c] w fun e w' => w' = w∧e = .returned (.tuple #[.int .i64 (rO (bestOf n m):Int),.int .i64 (cO (bestOf n m):Int),.bool (bestOf n m).isSome]):=by
 have HL:=hid h
 obtain ⟨z,hz⟩:∃ z,z = bestOf n m:=⟨_,rfl⟩
 rw [← hz]
 have HZ:=hid (show bestUp n m n 0 = z by rw [bestUp_all,hz])
 clear h hz
 go_enter Tryz.func27,Tryz.ntmps27
 go_wp2_with fail
 go_loopw [5,6,7,8] (fun v5 v6 v7 v8 wr => ∃ (i:Nat) (o:Option (Nat × Nat)),i≤n∧v5 = .int .i64 (rO o:Int)∧v6 = .int .i64 (cO o:Int)∧v7 = .bool o.isSome∧v8 = .int .i64 (i:Int)∧wr = w∧Hid (o = bestUp n m i 0)) (fun _ _ _ v8 _ => n - (intOf v8).toNat)
 case atStart => exact ⟨0,none,Nat.zero_le _,rfl,rfl,rfl,rfl,rfl,rfl⟩
 case round =>
  obtain ⟨i,o,hil,rfl,rfl,rfl,rfl,rfl,H⟩:=hrel
  by_cases hit:i < n
  ·
   have hii:(i:Int) < (n:Int):=by omega
   have hi0:(0:Int)≤(i:Int):=by omega
   obtain ⟨b,off,rfl,rb,ro,rc,hR,hRc⟩:=HL.out.row hit
   have HR:=hid (And.intro hR hRc)
   clear hR hRc
   generalize wr = w at HL HR ⊢
   go_wp2_with fail
   go_loopw [5,6,7,9] (fun v5 v6 v7 v9 wr => ∃ (k:Nat) (o:Option (Nat × Nat)),k≤n∧v5 = .int .i64 (rO o:Int)∧v6 = .int .i64 (cO o:Int)∧v7 = .bool o.isSome∧v9 = .int .i64 (k:Int)∧wr = w∧Hid (o = bestUp n m i k)) (fun _ _ _ v9 _ => n - (intOf v9).toNat)
   case atStart => exact ⟨0,o,Nat.zero_le _,rfl,rfl,rfl,rfl,rfl,H.out⟩
   case round =>
    clear H
    obtain ⟨k,o,hkl,rfl,rfl,rfl,rfl,rfl,H⟩:=hrel
    by_cases hkt:k < n
    ·
     have hkk:(k:Int) < (n:Int):=by omega
     have hk0:(0:Int)≤(k:Int):=by omega
     have c1:=HR.out.1 _ (Kept.refl _)
     have c2:=HR.out.2 k hkt _ (Kept.refl _)
     have HS:=hid (show bestUp n m i (k + 1) = less n m o (i,k) by rw [bestUp_step,← H.out])
     have HIN:=hid (show ∀ q,o = some q→q.1 < n∧q.2 < n by intro q hq; exact bestUp_in hil hkl (Or.inr hit) q (by rw [← H.out]; exact hq))
     cases hm:m i k with
     | false =>
      have HE:=hid (show o = bestUp n m i (k + 1) by rw [HS.out]; unfold less; rw [if_neg (by rw [hm]; decide)])
      rw [hm] at c2
      clear hm
      --%A
      go_wp2_with fail
      go_roundw
      case rel => exact ⟨k + 1,o,by omega,rfl,rfl,rfl,by go_num,by first | rfl | trivial,HE.out⟩
      case measure => show n - ((k:Int) + 1).toNat < n - (k:Int).toNat; omega
     | true =>
      rw [hm] at c2
      cases o with
      | none =>
       have HE:=hid (show some (i,k) = bestUp n m i (k + 1) by rw [HS.out]; unfold less; rw [if_pos hm])
       clear hm
       --%B
       go_wp2_with fail
       go_roundw
       case rel => exact ⟨k + 1,some (i,k),by omega,rfl,rfl,rfl,by go_num,by first | rfl | trivial,HE.out⟩
       case measure => show n - ((k:Int) + 1).toNat < n - (k:Int).toNat; omega
      | some q =>
       have hq:=HIN.out q rfl
       have hP1:=price_any (some ⟨b,off,none⟩) n c m i k wr HL.out hn hit hkt
       have hP2:=price_any (some ⟨b,off,none⟩) n c m q.1 q.2 wr HL.out hn hq.1 hq.2
       have HE:=hid (show (if cost n m i k < cost n m q.1 q.2 then some (i,k) else some q) = bestUp n m i (k + 1) by rw [HS.out]; unfold less; rw [if_pos hm])
       clear hm HS HIN
       generalize cost n m i k = x at hP1 HE
       generalize cost n m q.1 q.2 = y at hP2 HE
       obtain ⟨qr,qc⟩:=q
       have HPP:=hid (And.intro hP1 hP2)
       clear hP1 hP2
       --%C
       go_wp2_with fail
       refine HPP.out.1.mono ?_
       rintro e w1 ⟨rfl,rfl⟩
       go_wp2_with fail
       refine HPP.out.2.mono ?_
       rintro e w2 ⟨rfl,rfl⟩
       --%D
       by_cases hxy:x < y
       ·
        have HE:=hid (show some (i,k) = bestUp n m i (k + 1) by rw [← HE.out,if_pos hxy])
        go_wp2_with fail
        go_roundw
        case rel => exact ⟨k + 1,some (i,k),by omega,rfl,rfl,rfl,by go_num,by first | rfl | trivial,HE.out⟩
        case measure => show n - ((k:Int) + 1).toNat < n - (k:Int).toNat; omega
       ·
        have HE:=hid (show some (qr,qc) = bestUp n m i (k + 1) by rw [← HE.out,if_neg hxy])
        go_wp2_with fail
        go_roundw
        case rel => exact ⟨k + 1,some (qr,qc),by omega,rfl,rfl,rfl,by go_num,by first | rfl | trivial,HE.out⟩
        case measure => show n - ((k:Int) + 1).toNat < n - (k:Int).toNat; omega
    ·
     have hkk:¬ (k:Int) < (n:Int):=by omega
     obtain rfl:k = n:=by omega
     have HE:=hid (show o = bestUp k m (i + 1) 0 by rw [bestUp_row]; exact H.out)
     clear H
     go_wp2_with fail
     go_roundw
     case rel => exact ⟨i + 1,o,by omega,rfl,rfl,rfl,by go_num,by first | rfl | trivial,HE.out⟩
     case measure => show k - ((i:Int) + 1).toNat < k - (i:Int).toNat; omega
  ·
   have hii:¬ (i:Int) < (n:Int):=by omega
   obtain rfl:i = n:=by omega
   have HE:=hid (show o = z by rw [H.out,HZ.out])
   clear H HZ
   go_wp2_with fail
   go_ret3
   exact ⟨rfl,by rw [HE.out]; rfl⟩
end Sp
end Go.Proofs.YtdcgdpbgnijnpaaGreat

namespace Go.Proofs.YtdcgdpbgnijnpaaGreat
open Go.RowKit
open V (RowL RowL.alloc RowL.lt RowL.cell RowL.fz RowL.kept RowL.block RowL.set RowL.far)
namespace Sp
end Sp
end Go.Proofs.YtdcgdpbgnijnpaaGreat

namespace Go.Proofs.YtdcgdpbgnijnpaaGreat
open Go.RowKit
namespace Sp
theorem MatU.shape {B:Nat} {w:World} {v:Value} {n i:Nat} {m:Nat→Nat→Bool} (h:MatU B w v n i m):∃ ao cap,v = .slice ao i cap:=by
 obtain ⟨gs,_,h2,_⟩:=h
 exact own_shape h2
theorem PatU.shape {B:Nat} {w:World} {v:Value} {P:List (List Int)} (h:PatU B w v P):∃ ao cap,v = .slice ao P.length cap:=by
 obtain ⟨gs,_,h2,_⟩:=h
 exact own_shape h2
def costS (P:List (List Int)) (r k:Int):Int × Int:=if okP P = true then (if hasM P.length (mP P) r k = true then (cost P.length (mP P) r.toNat k.toNat,0) else (0,1)) else (0,130)
def bestS (P:List (List Int)):Option (Nat × Nat):=if okP P = true then bestOf P.length (mP P) else none
def elimS (P:List (List Int)) (r k:Int):List (List Int) × Int:=if okP P = true then (if hasM P.length (mP P) r k = true then (thinP P.length (elim (mP P) r.toNat k.toNat) P.length,0) else ([],1)) else ([],130)
end Sp
end Go.Proofs.YtdcgdpbgnijnpaaGreat

namespace Go.Proofs.YtdcgdpbgnijnpaaGreat
open Go.RowKit
open V (RowL RowL.alloc RowL.lt RowL.cell RowL.fz RowL.kept RowL.block RowL.set RowL.far)
namespace Sp
theorem MatU.mono {B B':Nat} {w:World} {v:Value} {n i:Nat} {m:Nat→Nat→Bool} (h:MatU B w v n i m) (hB:B'≤B):MatU B' w v n i m:=by
 obtain ⟨gs,h1,h2,h3⟩:=h
 exact ⟨gs,h1,own_mono h2 hB,fun j hj => ⟨Nat.le_trans hB (h3 j hj).1,(h3 j hj).2⟩⟩
theorem MatU.grown {B B':Nat} {w w':World} {v rv:Value} {n i len:Nat} {m:Nat→Nat→Bool} {xs:List Value} (h:MatU B w v n i m) (ho:w.ownsRow B' 3 1 rv len xs) (hg:w.grownBy w' rv.ownBlock):MatU B w' v n i m:=by
 obtain ⟨gs,h1,h2,h3⟩:=h
 refine ⟨gs,h1,own_kept h2 (fun b hb => hg.block b (World.ownsRow.lt h2 b hb).2 (fun e => own_apart h2 ho (by decide) b hb e.symm)),fun j hj => ⟨(h3 j hj).1,(h3 j hj).2.block (hg.block _ (h3 j hj).2.lt (fun e => own_row ho (h3 j hj).2 (by decide) e.symm))⟩⟩
theorem OwnI.grown {B:Nat} {w w':World} {v rv:Value} {l:List Int} (h:OwnI B w v l) (ha:∀ b,v.ownBlock = some b→rv.ownBlock ≠ some b) (hg:w.grownBy w' rv.ownBlock):OwnI B w' v l :=
 own_kept h (fun b hb => hg.block b (World.ownsRow.lt h b hb).2 (fun e => ha b hb e.symm))
def lenOf (v:Value):Nat:=match v with
 | .slice _ n _ => n
 | _ => 0
def orderS (P:List (List Int)):List (Nat × Nat):=if okP P = true then orderL P.length P.length (mP P) else []
def fstI (l:List (Nat × Nat)):List Int:=l.map fun q => (q.1:Int)
def sndI (l:List (Nat × Nat)):List Int:=l.map fun q => (q.2:Int)
structure OrdI (B n:Nat) (m0:Nat→Nat→Bool) (w:World) (rv cv mv:Value) (dn:List (Nat × Nat)) (cur:Nat→Nat→Bool) (j:Nat):Prop where
 rows:OwnI B w rv (fstI dn)
 cols:OwnI B w cv (sndI dn)
 apart:∀ b,rv.ownBlock = some b→cv.ownBlock ≠ some b
 mat:MatU B w mv n n cur
 all:orderL n n m0 = dn ++ orderL n j cur
 enough:(live n cur).length≤j
 short:dn.length + (live n cur).length≤n
end Sp
end Go.Proofs.YtdcgdpbgnijnpaaGreat

namespace Go.Proofs.YtdcgdpbgnijnpaaGreat
open Go.RowKit
open V (RowL RowL.alloc RowL.lt RowL.cell RowL.fz RowL.kept RowL.block RowL.set RowL.far)
namespace Sp
def fillGo (n:Nat):(Nat→Nat→Bool)→List (Int × Int)→Nat→Int × Int
 | _,[],all => ((all:Int),0)
 | m,q :: t,all => if hasM n m q.1 q.2 = true then fillGo n (elim m q.1.toNat q.2.toNat) t (all + fillC n m q.1.toNat q.2.toNat) else (0,1)
def fillS (P:List (List Int)) (rows cols:List Int):Int × Int:=if okP P = true then (if rows.length = cols.length then fillGo P.length (mP P) (rows.zip cols) 0 else (0,5)) else (0,130)
end Sp
end Go.Proofs.YtdcgdpbgnijnpaaGreat
