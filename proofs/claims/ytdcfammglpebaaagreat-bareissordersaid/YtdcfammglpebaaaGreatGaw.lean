/- A new list of whole numbers; what holds while back goes through the stages. shuntref12.SameInts of equal lists; limb.Add of whatever numbers; lists of one's own as arguments. back. Solve, whole. Small numbers, rows and lists that literals make; what a list of whole numbers is. shuntlaw14.awake. shuntlaw14.BareissUnit: its walk. Rows of cells that grow in any order; a matrix of them. A matrix by what its cells say, wherever they lie (pure); rows of one's own as a matrix. shuntlaw14.copied: a matrix anew, limbs and all. A matrix and a list of one's own: rows swapped, numbers put in place; limb.Mul of whatever numbers. BareissOrder's mathematics in memory's words: the rows and the list behind the swap and the product; Solve's answers. -/
import Derived.Test.YtdcfammglpebaaaGreatGav
import Derived.Test.YtdcfammglpebaaaGreatTr
import Derived.Laws.MakeOwn
import Derived.Test.YtdcfammglpebaaaGreatGau
import Derived.Test.YtdcfammglpebaaaGreatGad
import Derived.Test.YtdcfammglpebaaaGreatGam
import Derived.Test.YtdcfammglpebaaaGreatGar
import Derived.Test.YtdcfammglpebaaaGreatGai
namespace Go.Proofs.YtdcfammglpebaaaGreat
open Go.RowKit Go.MapKept Go.Shelf
open V (RowL RowL.alloc RowL.lt RowL.cell RowL.fz RowL.kept RowL.set RowL.far RowL.block)
open Sp (hid)
open Ba (stg lastP pivs wideZ facS Fits)
open Bm (ZI ZI.kept)
namespace Bp
theorem made_at (z:Array Value) (n i:Nat) (hi:i < n):(madeCells z n).toList[i]? = some (z[i % z.size]!):=by
 unfold madeCells
 rw [Array.getElem?_toList,Array.getElem?_map,Array.getElem?_range]
 simp [hi]
theorem make_zs {n:Nat} (hn:n≤1000000) (u:World):∃ W,(Instr.makeSlice 23 (.int .i64 (n:Int)) (.int .i64 (n:Int))).run Tryz.prog u = .ok (.slice (some ⟨u.heap.size,0,none⟩) n n) W∧Kept u W∧W.heap.size = u.heap.size + 1∧SdX (EN u.heap.size) u.heap.size W (some ⟨u.heap.size,0,none⟩) n n (fun _ => 0):=by
 obtain ⟨i0,hi,hz0,hz1,hz2⟩:=info_parts info_z
 have h:=run_make (P:=Tryz.prog) u 23 37 i0 (.agg #[.bool false,.slice none 0 0]) und_zs hi hz0 .i64 .i64 (n:Int) (n:Int) (by omega) (Int.le_refl _) (by rw [hz2]; omega) (by omega)
 simp only [Int.toNat_natCast,hz1] at h
 refine ⟨_,h,(Kept.refl u).alloc _,by simp,fun h0 => ⟨u.heap.size,(madeCells (Value.agg #[.bool false,.slice none 0 0]).cells (n * 2)).toList,rfl,⟨by rw [Array.length_toList,size_madeCells],.inr ⟨u.heap.size,n,madeCells (Value.agg #[.bool false,.slice none 0 0]).cells (n * 2),rfl,Nat.le_refl _,heap_alloc_new u _,Nat.le_refl _,by unfold maxLen; omega,size_madeCells _ _,List.take_of_length_le (by rw [Array.length_toList,size_madeCells]; exact Nat.le_refl _)⟩⟩,fun j hj => ⟨false,none,0,0,?_,?_,[],⟨(fun _ h => by cases h),.inl ⟨rfl,rfl⟩⟩,⟨fun _ h => (by cases h),.inl rfl,by decide,fun _ => rfl⟩,rfl⟩⟩⟩
 ·
  rw [made_at _ _ _ (by omega),show (j * 2) % (Value.agg #[.bool false,.slice none 0 0]).cells.size = 0 from Nat.mul_mod_left j 2]
  rfl
 ·
  rw [made_at _ _ _ (by omega),show (j * 2 + 1) % (Value.agg #[.bool false,.slice none 0 0]).cells.size = 1 from by show (j * 2 + 1) % 2 = 1; omega]
  rfl
structure BkS (n:Nat) (w0 W:World) (B1:Nat) (p2 p3 p4 p5 p6 p7 fb:Nat) (uo:Option Addr) (uc:Nat) (xo:Option Addr) (xc:Nat) (s6:Bool) (o6:Option Addr) (k6 c6:Nat) (z:Int) (zs:Nat→Int):Prop where
 kept:Kept w0 W
 b2:RowL 27 W p2 [.pointer (some ⟨fb,0,none⟩)]
 b3:RowL 23 W p3 [.slice uo n uc]
 b4:RowL 23 W p4 [.slice none 0 0]
 b5:RowL 28 W p5 [.int .i64 0]
 b6:RowL 37 W p6 [.bool s6,.slice o6 k6 c6]
 b7:RowL 23 W p7 [.slice xo n xc]
 d:ZN w0.heap.size W s6 (.slice o6 k6 c6) z
 x:SdX (EN w0.heap.size) B1 W xo n xc zs
 far:p6 < B1∧w0.heap.size≤B1
section
variable {n:Nat} {w0 W W':World} {B1 p2 p3 p4 p5 p6 p7 fb:Nat} {uo:Option Addr} {uc:Nat} {xo:Option Addr} {xc:Nat} {s6:Bool} {o6:Option Addr} {k6 c6:Nat} {z:Int} {zs zs':Nat→Int}
theorem BkS.kx {T:Nat→Prop} (h:BkS n w0 W B1 p2 p3 p4 p5 p6 p7 fb uo uc xo xc s6 o6 k6 c6 z zs) (k:KX T W W') (hT:∀ t,Free t T W) (h0:∀ k,T k→w0.heap.size≤k):BkS n w0 W' B1 p2 p3 p4 p5 p6 p7 fb uo uc xo xc s6 o6 k6 c6 z zs :=
 ⟨KX.kept h.kept k h0,RowL_kx h.b2 k (hT _),RowL_kx h.b3 k (hT _),RowL_kx h.b4 k (hT _),RowL_kx h.b5 k (hT _),RowL_kx h.b6 k (hT _),RowL_kx h.b7 k (hT _),h.d.kx k (hT _),h.x.kx (EN.keeps _) k (hT _) (hT _),h.far⟩
theorem BkS.later (h:BkS n w0 W B1 p2 p3 p4 p5 p6 p7 fb uo uc xo xc s6 o6 k6 c6 z zs) (k:Kept W W'):BkS n w0 W' B1 p2 p3 p4 p5 p6 p7 fb uo uc xo xc s6 o6 k6 c6 z zs :=
 h.kx (T:=fun _ => False) (KX.of k) (fun _ _ h => h.elim) (fun _ h => h.elim)
theorem BkS.congr (h:BkS n w0 W B1 p2 p3 p4 p5 p6 p7 fb uo uc xo xc s6 o6 k6 c6 z zs) (e:∀ j,j < n→zs j = zs' j):BkS n w0 W B1 p2 p3 p4 p5 p6 p7 fb uo uc xo xc s6 o6 k6 c6 z zs' :=
 ⟨h.kept,h.b2,h.b3,h.b4,h.b5,h.b6,h.b7,h.d,h.x.congr e,h.far⟩
theorem BkS.own {B:Nat} (hB:w0.heap.size≤B) (f:List Nat→Nat→Int):OwnFrom B (fun (pre:List Nat) W => BkS n w0 W B1 p2 p3 p4 p5 p6 p7 fb uo uc xo xc s6 o6 k6 c6 z (f pre)):=by
 intro pre W W' row h hg hr
 refine h.kx (KX.grown hg) (fun t k hk cur fr e => ?_) (fun k hk => ?_)
 ·
  obtain ⟨_,o,ho,hc⟩:=hr k hk.symm
  rw [ho] at e
  cases e
  cases hc
 ·
  have:=(hr k hk.symm).1
  omega
theorem BkS.put {g j:Nat} {s:Bool} {ao:Option Addr} {k cap:Nat} {y:Int} (h:BkS n w0 W B1 p2 p3 p4 p5 p6 p7 fb uo uc (some ⟨g,0,none⟩) xc s6 o6 k6 c6 z zs) (hj:j < n) (hz:ZN w0.heap.size W s (.slice ao k cap) y) :
  BkS n w0 ((W.setCell ⟨g,j * 2,none⟩ (.bool s)).setCell ⟨g,j * 2 + 1,none⟩ (.slice ao k cap)) B1 p2 p3 p4 p5 p6 p7 fb uo uc (some ⟨g,0,none⟩) xc s6 o6 k6 c6 z (upd zs j y)∧KX (fun k => k = g) W ((W.setCell ⟨g,j * 2,none⟩ (.bool s)).setCell ⟨g,j * 2 + 1,none⟩ (.slice ao k cap)):=by
 obtain ⟨h1,kx⟩:=h.x.put (EN.keeps _) hj hz
 have hfr:∀ t,t ≠ 37→Free t (fun k => k = g) W:=fun t ht => h.x.free (by omega) ht
 obtain ⟨g',_,_,_,_,e,hg,_⟩:=h.x.at (j:=j) hj
 cases e
 have hf:=h.far
 refine ⟨⟨KX.kept h.kept kx (fun k hk => by rw [hk]; omega),RowL_kx h.b2 kx (hfr _ (by decide)),RowL_kx h.b3 kx (hfr _ (by decide)),RowL_kx h.b4 kx (hfr _ (by decide)),RowL_kx h.b5 kx (hfr _ (by decide)),World.rowIs.of_block h.b6 (kx.block p6 h.b6.lt (by omega)),RowL_kx h.b7 kx (hfr _ (by decide)),h.d.kx kx (hfr _ (by decide)),h1,h.far⟩,kx⟩
end
section
variable {n:Nat} {w0 W W':World} {p4 p5:Nat} {zs:Nat→Int}
theorem SdX.imp {E E':World→Bool→Value→Int→Prop} {B:Nat} {so:Option Addr} {sc:Nat} (h:SdX E B W so n sc zs) (hE:∀ s v z,E W s v z→E' W s v z):SdX E' B W so n sc zs:=fun h0 => by
 obtain ⟨g,xs,e,ho,hx⟩:=h h0
 refine ⟨g,xs,e,ho,fun j hj => ?_⟩
 obtain ⟨s,ao,k,cap,x1,x2,x3⟩:=hx j hj
 exact ⟨s,ao,k,cap,x1,x2,hE _ _ _ x3⟩
theorem SdX.mono2 {E:World→Bool→Value→Int→Prop} {B B':Nat} {so:Option Addr} {sc:Nat} (h:SdX E B W so n sc zs) (hB:B'≤B):SdX E B' W so n sc zs:=fun h0 => by
 obtain ⟨g,xs,e,ho,hx⟩:=h h0
 exact ⟨g,xs,e,⟨ho.1,ho.2.imp id fun ⟨g,cap,cur,e,hb,r⟩ => ⟨g,cap,cur,e,Nat.le_trans hB hb,r⟩⟩,hx⟩
structure BkE (w0 W:World) (p4 p5:Nat):Prop where
 kept:Kept w0 W
 b4:RowL 23 W p4 [.slice none 0 0]
 b5:RowL 28 W p5 [.int .i64 13]
theorem BkE.own {β:Type} {B:Nat} (hB:w0.heap.size≤B):OwnFrom B (fun (_:β) W => BkE w0 W p4 p5):=by
 intro pre W W' row h hg hr
 have hf:∀ t,Free t (fun k => some k = row) W:=fun t k hk cur fr e => by
  obtain ⟨_,o,ho,hc⟩:=hr k hk.symm
  rw [ho] at e
  cases e
  cases hc
 refine ⟨KX.kept h.kept (KX.grown hg) (fun k hk => ?_),RowL_kx h.b4 (KX.grown hg) (hf _),RowL_kx h.b5 (KX.grown hg) (hf _)⟩
 have:=(hr k hk.symm).1
 omega
theorem row_ownF {β:Type} {B:Nat} {t:TypeId} (q:Nat) (xs:List Value):OwnFrom B (fun (_:β) W => RowL t W q xs):=by
 intro _ W W' row h hg hr
 refine RowL_kx h (KX.grown hg) (fun k hk cur fr e => ?_)
 obtain ⟨_,o,ho,hc⟩:=hr k hk.symm
 rw [ho] at e
 cases e
 cases hc
theorem kx_from {g B:Nat} (k:KX (fun k => k = g) W W') (hg:∀ o,W.heap[g]? = some o→o.isCells = true):KeepsFrom B W W':=by
 refine ⟨k.size,fun i o _ ho hc => (k.block i (Array.getElem?_eq_some_iff.1 ho).1 (fun e => ?_)).trans ho⟩
 rw [e] at ho
 rw [hg o ho] at hc
 cases hc
theorem kx_keepB {g Bs:Nat} {so:Option Addr} (k:KX (fun k => k = g) W W') (h1:Bs < W.heap.size) (h2:Bs ≠ g) (h3:∀ i,so = some ⟨i,0,none⟩→i < W.heap.size∧i ≠ g):KeepB Bs so W W' :=
 ⟨k.block Bs h1 h2,fun i hi => k.block i (h3 i hi).1 (h3 i hi).2⟩
end
def noDefer (ops:Array Oper):Bool:=ops.all fun o => match o.op with
 | .defer _ => false
 | _ => true
theorem noDefer_spec {ops:Array Oper} (h:noDefer ops = true):∀ (i:Nat) (o:Oper),ops[i]? = some o→∀ c,o.op ≠ .defer c:=by
 intro i o ho c hc
 unfold noDefer at h
 rw [Array.all_eq_true] at h
 obtain ⟨hi,e⟩:=Array.getElem?_eq_some_iff.1 ho
 have h1:=h i hi
 rw [e,hc] at h1
 cases h1
section
variable {P:Program} {ops:Array Oper} {Q:Exit→Act→World→Prop} {S:World→Prop}
theorem rg_z (z:Nat) {l n id:Nat} {a:Act} {w:World} (hm:P.follows .mixedOrders = true) (hd:noDefer ops = true) (hL:¬ LetsOut Q) (hS:S w.drew)
  (h:S w.drew→X.anyZ P .any ops Q S z ops.size (Array.replicate ops.size false) a w.drew):(Code.region id ops true).wpIn (Fence.wide.inRound l) n P Q a w :=
 region_round l n z hm (noDefer_spec hd) hL hS h
theorem rg_h {l n id:Nat} {a:Act} {w:World} (hm:P.follows .mixedOrders = true) (hd:noDefer ops = true) (hL:¬ LetsOut Q) (hS:S w.drew)
  (h:S w.drew→wpAnyH P .any ops Q S ops.size (Array.replicate ops.size false) a w.drew):(Code.region id ops true).wpIn (Fence.wide.inRound l) n P Q a w :=
 wpIn_region_draw fun t => ops_round (noDefer_spec hd) hL _ _ _ (by
  simp only [Region.schedule,hm,Bool.true_or,if_true]
  exact wpAny_sound ops.size t _ a _ (wpAny_of_held _ _ _ _ (h hS)))
end
theorem kx_fromT {T:Nat→Prop} {B:Nat} {W W':World} (k:KX T W W') (hg:∀ g,T g→∀ o,W.heap[g]? = some o→o.isCells = true):KeepsFrom B W W':=by
 refine ⟨k.size,fun i o _ ho hc => (k.block i (Array.getElem?_eq_some_iff.1 ho).1 (fun e => ?_)).trans ho⟩
 rw [hg i e o ho] at hc
 cases hc
theorem row_cells {W:World} {t:TypeId} {p:Nat} {xs:List Value} (h:RowL t W p xs):∀ o,W.heap[p]? = some o→o.isCells = true:=by
 intro o ho
 obtain ⟨c,h4,_⟩:=h
 rw [h4] at ho
 cases ho
 rfl
theorem sdx_cells {E:World→Bool→Value→Int→Prop} {B g n sc:Nat} {W:World} {zs:Nat→Int} (h:SdX E B W (some ⟨g,0,none⟩) n sc zs) (h0:0 < n):∀ o,W.heap[g]? = some o→o.isCells = true:=by
 intro o ho
 obtain ⟨g',xs,e,hw,_⟩:=h h0
 cases e
 obtain ⟨cur,fr,hb⟩:=own_block hw
 rw [hb] at ho
 cases ho
 rfl
theorem kx_putObj {W:World} {D:Nat} (o:Obj):KX (fun k => k = D) W (W.putObj D o):=⟨rfl,rfl,rfl,by simp,fun k _ hn => World.putObj_heap_other (fun e => hn (by rw [e]))⟩
theorem end_kx {W:World} {p4 p5 D:Nat} {a b v u:Value} {x:Option (List Deferred)} (o:Obj) (r4:RowL 23 W p4 [a]) (r5:RowL 28 W p5 [b]) (hD:W.heap[D]? = some (.deferred x)) :
  KX (fun k => k = p4 ∨ k = p5 ∨ k = D) W (((W.setCell ⟨p4,0,none⟩ v).setCell ⟨p5,0,none⟩ u).putObj D o)∧RowL 23 (((W.setCell ⟨p4,0,none⟩ v).setCell ⟨p5,0,none⟩ u).putObj D o) p4 [v]∧RowL 28 (((W.setCell ⟨p4,0,none⟩ v).setCell ⟨p5,0,none⟩ u).putObj D o) p5 [u] ∧
  (∀ t,t ≠ 23→t ≠ 28→Free t (fun k => k = p4 ∨ k = p5 ∨ k = D) W)∧((W.setCell ⟨p4,0,none⟩ v).setCell ⟨p5,0,none⟩ u).heap[D]? = some (.deferred x):=by
 have h4:∃ c f,W.heap[p4]? = some (.cells c 23 f):=by obtain ⟨c,h,_⟩:=r4; exact ⟨c,_,h⟩
 have h5:∃ c f,W.heap[p5]? = some (.cells c 28 f):=by obtain ⟨c,h,_⟩:=r5; exact ⟨c,_,h⟩
 have h45:p4 ≠ p5:=fun e => by
  obtain ⟨c,f,h⟩:=h4
  obtain ⟨c',f',h'⟩:=h5
  rw [e,h'] at h
  injection h with h
  injection h with _ h _
  exact absurd h (by decide)
 have h4D:p4 ≠ D:=fun e => by
  obtain ⟨c,f,h⟩:=h4
  rw [e,hD] at h
  cases h
 have h5D:p5 ≠ D:=fun e => by
  obtain ⟨c,f,h⟩:=h5
  rw [e,hD] at h
  cases h
 have q4:RowL 23 ((W.setCell ⟨p4,0,none⟩ v).setCell ⟨p5,0,none⟩ u) p4 [v]:=(r4.set 0 v).far h45 0 u
 have q5:RowL 28 ((W.setCell ⟨p4,0,none⟩ v).setCell ⟨p5,0,none⟩ u) p5 [u]:=(r5.far (fun e => h45 e.symm) 0 v).set 0 u
 refine ⟨?_,q4.block (World.putObj_heap_other h4D),q5.block (World.putObj_heap_other h5D),?_,?_⟩
 ·
  refine KX.then (T':=fun k => k = D) ?_ (kx_putObj o) (fun i hi => .inl (.inr (.inr hi)))
  exact ((KX.refl W).setCell (T:=fun k => k = p4 ∨ k = p5 ∨ k = D) (p:=⟨p4,0,none⟩) (.inl (.inl rfl)) v).setCell (p:=⟨p5,0,none⟩) (.inl (.inr (.inl rfl))) u
 ·
  intro t ht4 ht5 k hk cur fr e
  rcases hk with rfl | rfl | rfl
  ·
   obtain ⟨c,f,h⟩:=h4
   rw [h] at e
   injection e with e
   injection e with _ e _
   exact ht4 e.symm
  ·
   obtain ⟨c,f,h⟩:=h5
   rw [h] at e
   injection e with e
   injection e with _ e _
   exact ht5 e.symm
  ·
   rw [hD] at e
   cases e
 ·
  rw [Below.heap_setCell _ _ _ _ (fun e => h5D e.symm),Below.heap_setCell _ _ _ _ (fun e => h4D e.symm)]
  exact hD
theorem zn_row {B:Nat} {W:World} {s:Bool} {v:Value} {z:Int} {t:TypeId} {p:Nat} {xs:List Value} (h:ZN B W s v z) (r:RowL t W p xs) (ht:t ≠ 40) (x y:Value):ZN B ((W.setCell ⟨p,0,none⟩ x).setCell ⟨p,1,none⟩ y) s v z:=by
 refine h.kx (T:=fun k => k = p) (((KX.refl W).setCell (T:=fun k => k = p) (p:=⟨p,0,none⟩) (.inl rfl) x).setCell (p:=⟨p,1,none⟩) (.inl rfl) y) (fun k hk cur fr e => ?_)
 subst hk
 obtain ⟨c,h4,_⟩:=r
 rw [h4] at e
 injection e with e
 injection e with _ e _
 exact ht e
theorem RgO.nd {B r n:Nat} {mo:Option Nat} {w:World} {f:Nat→Int} {D:List Nat} (h:RgO B w r mo n f D):D.Nodup∧∀ k ∈ D,k < n:=by
 rcases h with ⟨_,_,_,rfl⟩ | ⟨b,_,h⟩
 ·
  exact ⟨List.nodup_nil,fun k hk => by cases hk⟩
 ·
  have hn:=h.num
  obtain ⟨_,es,clock,seen,_,_,_,_,_,h1,h2⟩:=h
  exact ⟨h1,fun k hk => hn.lt_n (h2 k hk)⟩
theorem rowl_free {W:World} {t t':TypeId} {p:Nat} {xs:List Value} (r:RowL t W p xs) (ht:t ≠ t'):Free t' (fun k => k = p) W:=by
 intro k hk cur fr e
 subst hk
 obtain ⟨c,h4,_⟩:=r
 rw [h4] at e
 injection e with e
 injection e with _ e _
 exact ht e
theorem RgO.far_row {B r n:Nat} {mo:Option Nat} {w:World} {f:Nat→Int} {D:List Nat} (h:RgO B w r mo n f D) {t:TypeId} {p:Nat} {xs:List Value} (hr:RowL t w p xs):¬ r = p:=fun e => by
 obtain ⟨c,h4,_⟩:=hr
 exact h.free t p e.symm _ _ h4
end Bp
end Go.Proofs.YtdcfammglpebaaaGreat

namespace Go.Proofs.YtdcfammglpebaaaGreat
open Go.RowKit
open V (RowL RowL.alloc RowL.lt RowL.cell RowL.fz RowL.kept)
open Sp (hid)
open Sy
open Bm (ZI ZI.kept ZI.of MxR ZsR mxr_at mxr_kept zsr_at zsr_kept cel_at mOk)
open Ba (stg lastP pivs wideZ facS Fits)
namespace Bp
end Bp
end Go.Proofs.YtdcfammglpebaaaGreat

namespace Go.Proofs.YtdcfammglpebaaaGreat
open Go.RowKit Go.MapKept Go.Shelf
open V (RowL RowL.alloc RowL.lt RowL.cell RowL.fz RowL.kept)
open Sp (hid)
open Ba (stg lastP pivs wideZ facS Fits)
open Bm (ZI ZI.kept)
attribute [local go_sem] Oper.semAt_some
namespace Bp
set_option maxRecDepth 100000 in
set_option maxHeartbeats 40000000 in
theorem back_any (B fb n limbs:Nat) (sa:Option Addr) (sc:Nat) (Ss:List StC) (M:Nat→Nat→Int) (b:Nat→Int) (ps:List (Nat × Nat)) (uo:Option Addr) (uc:Nat) (w:World) (h:FacR B w fb n limbs sa n sc Ss M ps) (hf:Fits n M ps) (hl:ps.length = n) (hs:facS n limbs M = (ps,0)) (hL:limbs≤32) (hn:n≤48) (hu:IL (sdF n M b ps) w (.slice uo n uc) n) (hW:∀ k,k≤n→sdW n limbs M b ps k = false) :
  Calls Tryz.prog 47 #[.pointer (some ⟨fb,0,none⟩),.slice uo n uc] w (BkIs w n limbs (bkA n M b ps)):=by
 obtain ⟨Q,hQ⟩:∃ Q,Q = BkIs w n limbs (bkA n M b ps):=⟨_,rfl⟩
 rw [← hQ]
 have HQ:=hid hQ
 clear hQ
 have HH:=hid (And.intro h hu)
 have HF:=hid (And.intro hf (And.intro hl (And.intro hs (And.intro hL hW))))
 have hne:lastP M ps ≠ 0:=Ba.last_ne hf.piv
 have HN:=hid hne
 have hmk:=hid (fun u => make_zs (n:=n) (by omega) u)
 clear h hu hf hl hs hL hW hne
 have r2:=RowL.alloc 27 w [.pointer (some ⟨fb,0,none⟩)]
 have r3:=RowL.alloc 23 (w.alloc (.cells #[.pointer (some ⟨fb,0,none⟩)] 27)) [.slice uo n uc]
 have r4:=RowL.alloc 23 ((w.alloc (.cells #[.pointer (some ⟨fb,0,none⟩)] 27)).alloc (.cells #[.slice uo n uc] 23)) [.slice none 0 0]
 have r5:=RowL.alloc 28 (((w.alloc (.cells #[.pointer (some ⟨fb,0,none⟩)] 27)).alloc (.cells #[.slice uo n uc] 23)).alloc (.cells #[.slice none 0 0] 23)) [.int .i64 0]
 have k2:=(Kept.refl w).alloc (.cells #[.pointer (some ⟨fb,0,none⟩)] 27)
 have k3:=(Kept.refl (w.alloc (.cells #[.pointer (some ⟨fb,0,none⟩)] 27))).alloc (.cells #[.slice uo n uc] 23)
 have k4:=(Kept.refl ((w.alloc (.cells #[.pointer (some ⟨fb,0,none⟩)] 27)).alloc (.cells #[.slice uo n uc] 23))).alloc (.cells #[.slice none 0 0] 23)
 have k5:=(Kept.refl (((w.alloc (.cells #[.pointer (some ⟨fb,0,none⟩)] 27)).alloc (.cells #[.slice uo n uc] 23)).alloc (.cells #[.slice none 0 0] 23))).alloc (.cells #[.int .i64 0] 28)
 refine (callsIn_wide (n:=6)).1 (callsIn_of_wp_marks Tryz.func47 rfl trivial (wpIn_wide.2 ?_) rfl)
 simp only [Tryz.ntmps47,List.size_toArray,List.length_cons,List.length_nil,Nat.reduceAdd,Nat.reduceSub,Array.replicate_succ,Array.replicate_zero,List.push_toArray,List.append_toArray,List.nil_append,List.cons_append]
 --%A
 go_upto_region 1 with fail
 have s2:=Sy.alloc_sz w (.cells #[.pointer (some ⟨fb,0,none⟩)] 27)
 have s3:=Sy.alloc_sz (w.alloc (.cells #[.pointer (some ⟨fb,0,none⟩)] 27)) (.cells #[.slice uo n uc] 23)
 have s4:=Sy.alloc_sz ((w.alloc (.cells #[.pointer (some ⟨fb,0,none⟩)] 27)).alloc (.cells #[.slice uo n uc] 23)) (.cells #[.slice none 0 0] 23)
 have s5:=Sy.alloc_sz (((w.alloc (.cells #[.pointer (some ⟨fb,0,none⟩)] 27)).alloc (.cells #[.slice uo n uc] 23)).alloc (.cells #[.slice none 0 0] 23)) (.cells #[.int .i64 0] 28)
 generalize w.alloc (.cells #[.pointer (some ⟨fb,0,none⟩)] 27) = w1 at r2 r3 r4 r5 k2 k3 k4 k5 s2 s3 s4 s5 ⊢
 generalize w1.alloc (.cells #[.slice uo n uc] 23) = w2 at r3 r4 r5 k3 k4 k5 s3 s4 s5 ⊢
 generalize w2.alloc (.cells #[.slice none 0 0] 23) = w3 at r4 r5 k4 k5 s4 s5 ⊢
 generalize w3.alloc (.cells #[.int .i64 0] 28) = w4 at r5 k5 s5 ⊢
 rw [s4,s3,s2] at r5
 rw [s3,s2] at r4
 rw [s2] at r3
 obtain ⟨p5,hp5⟩:∃ p,p = w.heap.size + 1 + 1 + 1:=⟨_,rfl⟩
 obtain ⟨p4,hp4⟩:∃ p,p = w.heap.size + 1 + 1:=⟨_,rfl⟩
 obtain ⟨p3,hp3⟩:∃ p,p = w.heap.size + 1:=⟨_,rfl⟩
 obtain ⟨p2,hp2⟩:∃ p,p = w.heap.size:=⟨_,rfl⟩
 rw [← hp5] at r5 ⊢
 rw [← hp4] at r4 ⊢
 rw [← hp3] at r3 ⊢
 rw [← hp2] at r2 ⊢
 have HP:=hid (show w.heap.size≤p2∧w.heap.size≤p3∧(w.heap.size≤p4∧p4 < w4.heap.size)∧(w.heap.size≤p5∧p5 < w4.heap.size)∧p4 ≠ p5 by omega)
 have k4:=k4.trans k5
 have k3:=k3.trans k4
 have HV:=hid (show ∀ V,Kept w4 V→RowL 27 V p2 [.pointer (some ⟨fb,0,none⟩)]∧RowL 23 V p3 [.slice uo n uc]∧RowL 23 V p4 [.slice none 0 0]∧RowL 28 V p5 [.int .i64 0]∧Kept w V from fun V K => ⟨r2.kept (k3.trans K),r3.kept (k4.trans K),r4.kept (k5.trans K),r5.kept K,(k2.trans k3).trans K⟩)
 clear r2 r3 r4 r5 k2 k3 k4 k5 s2 s3 s4 s5 hp2 hp3 hp4 hp5
 have c2:=(HV.out w4 (Kept.refl _)).1.cell 0 _
 --%B
 go_wp2_with fail
 refine (last_any B fb n limbs sa n sc Ss M ps w4 (HH.out.1.kept (HV.out w4 (Kept.refl _)).2.2.2.2) HN.out (by omega)).mono ?_
 rintro e w5 ⟨hk,s6,o6,k6,c6,rfl,hz⟩
 have kB:=hk.alloc (.cells #[.bool s6,.slice o6 k6 c6] 37)
 have rB:=RowL.alloc 37 w5 [.bool s6,.slice o6 k6 c6]
 have hz:=hz.kept ((Kept.refl w5).alloc (.cells #[.bool s6,.slice o6 k6 c6] 37))
 have s6z:=Sy.alloc_sz w5 (.cells #[.bool s6,.slice o6 k6 c6] 37)
 clear c2 hk
 go_upto_region 2 with fail
 generalize w5.alloc (.cells #[.bool s6,.slice o6 k6 c6] 37) = w6 at kB rB hz s6z ⊢
 obtain ⟨p6,hp6⟩:∃ p,p = w5.heap.size:=⟨_,rfl⟩
 rw [← hp6] at rB s6z ⊢
 clear hp6
 have c3:=(HV.out w6 kB).2.1.cell 0 _
 obtain ⟨w7,hm,k7,s7,hx⟩:=hmk.out w6
 have rC:=RowL.alloc 23 w7 [.slice (some ⟨w6.heap.size,0,none⟩) n n]
 have kC:=(Kept.refl w7).alloc (.cells #[.slice (some ⟨w6.heap.size,0,none⟩) n n] 23)
 have s8z:=Sy.alloc_sz w7 (.cells #[.slice (some ⟨w6.heap.size,0,none⟩) n n] 23)
 obtain ⟨xg,hxg⟩:∃ p,p = w6.heap.size:=⟨_,rfl⟩
 rw [← hxg] at rC kC hm hx s7
 obtain ⟨p7,hp7⟩:∃ p,p = w7.heap.size:=⟨_,rfl⟩
 have HS:=hid (And.intro s6z (And.intro s7 (And.intro s8z (And.intro hxg hp7))))
 clear hmk s6z s7 s8z hxg hp7
 --%C
 go_upto_region 3 with fail
 obtain ⟨s6z,s7,s8z,hxg,hp7⟩:=HS.out
 rw [← hxg] at s8z
 generalize w7.alloc (.cells #[.slice (some ⟨xg,0,none⟩) n n] 23) = w8 at rC kC s8z ⊢
 rw [← hp7] at rC s8z ⊢
 clear hm c3
 have k8:=k7.trans kC
 have H8:=hid (show BkS n w w8 xg p2 p3 p4 p5 p6 p7 fb uo uc (some ⟨xg,0,none⟩) n s6 o6 k6 c6 (lastP M ps) (fun _ => 0) from
  ⟨(HV.out _ (kB.trans k8)).2.2.2.2,(HV.out _ (kB.trans k8)).1,(HV.out _ (kB.trans k8)).2.1,(HV.out _ (kB.trans k8)).2.2.1,(HV.out _ (kB.trans k8)).2.2.2.1,rB.kept k8,rC,(hz.kept k8).mono (HV.out w4 (Kept.refl _)).2.2.2.2.size,(SdX.imp hx fun s v z h => ZN.mono h (by have:=(HV.out w6 kB).2.2.2.2.size; omega)).kept (EN.keeps _) kC,⟨by omega,by have:=(HV.out w6 kB).2.2.2.2.size; omega⟩⟩)
 have hxs:xg < w8.heap.size:=by omega
 have HX:=hid (And.intro hxs (show w.heap.size≤xg by have:=(HV.out w6 kB).2.2.2.2.size; omega))
 clear hz rB rC kC k7 k8 hx kB s6z s7 s8z hxg hp7 HS HV k3 k4 hxs
 have c2:=H8.out.b2.cell 0 _
 have c1:=(HH.out.1.kept H8.out.kept).box.cell 1 _
 --%D
 go_wp2_with fail
 refine (backward_any sa n sc w8).mono ?_
 rintro e w9 ⟨rfl,rfl⟩
 have k9:=(Kept.refl w8).alloc (.cells #[.slice sa n sc] 78)
 have rB:=RowL.alloc 78 w8 [.slice sa n sc]
 have s9z:=Sy.alloc_sz w8 (.cells #[.slice sa n sc] 78)
 obtain ⟨Bs,hBs⟩:∃ p,p = w8.heap.size:=⟨_,rfl⟩
 generalize w8.alloc (.cells #[.slice sa n sc] 78) = w9 at k9 rB s9z ⊢
 rw [← hBs] at rB s9z ⊢
 have H9:=hid (H8.out.later k9)
 have HBs:=hid (show xg < Bs∧w9.heap.size = Bs + 1 from ⟨by have:=HX.out.1; omega,s9z⟩)
 clear c1 c2 k9 hBs s9z
 --%E
 go_wp2_with fail
 obtain ⟨C,hC⟩:∃ C:Nat→StC,C = fun x => Ss.getD (clip n x) ⟨0,0,false,none,0,0,false,none,0,0,0,0⟩:=⟨_,rfl⟩
 have hCj:∀ j (hj:j < Ss.length),j < n→C j = Ss[j]:=fun j hj h => by rw [hC]; show Ss.getD (clip n j) _ = _; rw [clip_eq h,List.getD_eq_getElem?_getD,List.getElem?_eq_getElem hj]; rfl
 have hSl:Ss.length = n:=by rw [HH.out.1.sts.len,HF.out.2.1]
 have hstg:∀ V,Kept w V→StgC V sa n C:=fun V K h0 => by
  obtain ⟨g,e,h1,h2,_⟩:=(HH.out.1.kept K).at (j:=0) (by omega)
  refine ⟨g,e,h1,fun j hj i u hu => ?_⟩
  obtain ⟨g',e',_,_,h3⟩:=(HH.out.1.kept K).at (j:=j) (by omega)
  rw [e] at e'
  cases e'
  exact h3 i u (by rw [← hCj j (by omega) hj]; exact hu)
 have hCx:∀ x,C x = C (clip n x):=fun x => by rw [hC]; show Ss.getD (clip n x) _ = Ss.getD (clip n (clip n x)) _; rw [show clip n (clip n x) = clip n x by unfold clip; omega]
 have HC:=hid (And.intro hCj (And.intro hSl hCx))
 clear hCj hC hSl hCx
 have hsag2:∀ g,sa = some ⟨g,0,none⟩→g < w.heap.size:=fun g e => by
  rcases HH.out.1.sts.own.2 with ⟨e1,_⟩ | ⟨g',_,_,e1,_,h2,_⟩
  ·
   rw [e] at e1; cases e1
  ·
   rw [e] at e1; cases e1; exact (Array.getElem?_eq_some_iff.1 h2).1
 have hw9:w.heap.size≤w9.heap.size:=H9.out.kept.size
 have hstops:SeqStopsK Fence.wide (6 - 1) Tryz.prog 116 #[.pointer (some ⟨Bs,0,none⟩)] (fun x:Nat => #[.int .i64 (x:Int),(C x).v]) (KeepB Bs sa) (fun xs => xs = dn n n) (fun pre => ∃ k,k≤n∧pre = dn n k) n w9:=fun l J Jx W hW _ _ hY h0 =>
  back1_in (6 - 1) (by omega) l Bs n sc sa C J Jx (by omega) hY W ((Below.cell hW (p:=⟨Bs,0,none⟩) (by have:=HBs.out.2; simp; omega)).trans (rB.cell 0 _)) (hstg W (H9.out.kept.trans hW)) h0
 refine (wpIn_wide (n:=6)).1 ?_
 refine wpIn_rangeFunc_ownH rfl (by omega) (gf:=116) (lb:=#[.pointer (some ⟨Bs,0,none⟩)]) rfl trivial (enters_of Tryz.func116 (by kernel_rfl) rfl)
  hstops (fun h k => KeepB.trans h k) (fun W l o o' hl _ _ _ => ⟨World.putObj_heap_other (by have:=HBs.out.2; omega),fun g e => World.putObj_heap_other (by have:=hsag2 g e; omega)⟩) (Below.refl _ _) (fun _ => rfl)
  (fun pre W => BkS n w W xg p2 p3 p4 p5 p6 p7 fb uo uc (some ⟨xg,0,none⟩) n s6 o6 k6 c6 (lastP M ps) (bkX n M b ps (pre.map (clip n)))∧(∀ c,c < n→wideZ limbs (bkX n M b ps (pre.map (clip n)) c) = false)∧w9.heap.size≤W.heap.size)
  (fun c pre W => BkE w W p4 p5∧c = .ret∧∃ j,j < n∧wideZ limbs (bkX n M b ps (pre.map (clip n)) j) = true)
  (OwnFrom.and (BkS.own hw9 (fun pre => bkX n M b ps (pre.map (clip n)))) (OwnFrom.and (ownFrom_pure _ _) (fun _ _ _ _ hs hg _ => Nat.le_trans hs hg.size)))
  (fun c => OwnFrom.and (BkE.own hw9) (ownFrom_pure _ _))
  ⟨H9.out,fun c _ => wide_0 limbs,Nat.le_refl _⟩
  (fun x a' W => ∃ q,w9.heap.size≤q∧RowL 98 W q (C x).cells∧a' = { tmps:=#[.pointer (some ⟨fb,0,none⟩),.slice uo n uc,.pointer (some ⟨p2,0,none⟩),.pointer (some ⟨p3,0,none⟩),.pointer (some ⟨p4,0,none⟩),.pointer (some ⟨p5,0,none⟩),.pointer (some ⟨p6,0,none⟩),.pointer (some ⟨p7,0,none⟩),undef,.pointer (some ⟨q,0,none⟩),undef,undef,undef,.pointer (some ⟨fb,0,none⟩),.agg #[.bool s6,.slice o6 k6 c6],.slice uo n uc,.int .i64 (n:Int),.slice (some ⟨xg,0,none⟩) n n,.pointer (some ⟨fb,0,none⟩),.pointer (some ⟨fb,0,none⟩),.pointer (some ⟨fb,1,none⟩),.slice sa n sc,.func (.func 116) #[] #[.pointer (some ⟨Bs,0,none⟩)],.int .i64 (x:Int),(C x).v,undef,undef,undef,undef,undef,undef,undef,undef,undef,undef,undef,undef,undef,undef,undef,undef,undef,undef,undef,undef,undef,undef,undef,undef,undef,undef,undef,undef,undef,undef,undef,undef,undef,undef,undef,undef,undef,undef,undef,undef,undef,undef,undef],defers:=[] })
  (fun x a' _ X Y row hs hg hr => by obtain ⟨q,h1,h2,h3⟩:=hs; exact ⟨q,h1,row_ownF (β:=Unit) q (C x).cells () X Y row h2 hg hr,h3⟩)
  ?assign ?body ?done ?stop
 case assign =>
  rintro l pre x W K ⟨hI,hno,hsz⟩ hK
  --%F
  gi_wp2_with fail
  exact hK _ _ ((KeepsOthers.alloc _ _).from _) ⟨Below.heap_alloc _ _ _ (by have h1:=HBs.out; omega),fun g e => Below.heap_alloc _ _ _ (by have:=hsag2 g e; have h2:=hI.kept.size; omega)⟩ ⟨hI.later ((Kept.refl W).alloc _),hno,by simp; omega⟩ ⟨W.heap.size,hsz,RowL.alloc 98 W (C x).cells,rfl⟩
 case body =>
  rintro l pre x a' W hl ⟨rl,hrl⟩ ⟨hI,hno,hsz⟩ ⟨q,hq,bX,rfl⟩ hlt
  have h0:0 < n:=by omega
  obtain ⟨j,hj⟩:∃ j,j = clip n x:=⟨_,rfl⟩
  have hjn:j < n:=by rw [hj]; exact clip_lt h0
  have hjS:j < Ss.length:=by rw [HC.out.2.1]; exact hjn
  have hjP:j < ps.length:=by rw [HF.out.2.1]; exact hjn
  obtain ⟨S,hS⟩:∃ S,S = Ss[j]:=⟨_,rfl⟩
  have hCx:C x = S:=by rw [HC.out.2.2,← hj,HC.out.1 j hjS hjn,hS]
  rw [hCx] at bX ⊢
  generalize S.v = v24
  simp only [StC.cells] at bX
  obtain ⟨zs,hzs⟩:∃ f,f = bkX n M b ps (pre.map (clip n)):=⟨_,rfl⟩
  rw [← hzs] at hI hno
  have hst:=(HH.out.1.kept hI.kept).sts.st j hjS hjP
  rw [← hS] at hst
  have SN:StN n M b ps j S.r S.c:=by rw [hst.er,hst.ec]; exact StN.of HF.out.1 HF.out.2.1 HF.out.2.2.1 HF.out.2.2.2.1 (HF.out.2.2.2.2 n (Nat.le_refl n)) hjP
  have hza:NumM B W S.ba n (acr n M ps j):=hst.za.congr fun k => by unfold acr; rw [getD_at hjP]
  have hzp:ZN B W S.s1 (.slice S.o1 S.k1 S.c1) (stg M (ps.take j) S.r S.c):=by rw [hst.er,hst.ec]; exact hst.zp
  have hX32:∀ k,k < n→(zs k).natAbs < W32:=fun k hk => not_wide_32 HF.out.2.2.2.1 (hno k hk)
  have hnx9:bkX n M b ps ((pre ++ [x]).map (clip n)) = upd zs S.c (quo0 (lastP M ps * sdF n M b ps S.r - msum n (acr n M ps j) zs) (stg M (ps.take j) S.r S.c)):=by
   rw [List.map_append,List.map_cons,List.map_nil,← hj,bkX_snoc,← hzs]
   unfold bkS
   rw [SN.er]
  obtain ⟨_,_,e,hu⟩:=il_kept HH.out.2 hI.kept
  cases e
  obtain ⟨ug,uoff,rfl,hug,hu⟩:=hu h0
  obtain ⟨s8,o8,k8,c8,u1,u2,hz8⟩:=hu S.r SN.hr
  have HB:=hid (And.intro hI (And.intro hno (And.intro hsz (And.intro hq (And.intro bX (And.intro SN (And.intro hza (And.intro hzp (And.intro hX32 hnx9)))))))))
  have HU:=hid (And.intro hug (And.intro u1 (And.intro u2 hz8)))
  have i1:(0:Int)≤(S.r:Int):=by omega
  have i2:(S.r:Int) < (n:Int):=by have:=SN.hr; omega
  have HLt:=hid (And.intro hjn h0)
  clear hjS hjP hS hCx hst hza hzp hX32 hnx9 hu hug u1 u2 hz8 SN hI hno hsz hq bX hzs hj hjn h0 hlt hl hrl
  --%J
  gi_wp2_with fail
  rename_i K5 hK5
  have HR:∀ (p10:Nat) (V:World) (s:Bool) (o:Option Addr) (k c:Nat) (v25 v26 v27 v28 v29 v30 v31:Value),Kept W V→W.heap.size≤p10→RowL 37 V p10 [.bool s,.slice o k c]→ZN W.heap.size V s (.slice o k c) (lastP M ps * sdF n M b ps S.r)→K5 { tmps:=#[.pointer (some ⟨fb,0,none⟩),.slice (some ⟨ug,uoff,none⟩) n uc,.pointer (some ⟨p2,0,none⟩),.pointer (some ⟨p3,0,none⟩),.pointer (some ⟨p4,0,none⟩),.pointer (some ⟨p5,0,none⟩),.pointer (some ⟨p6,0,none⟩),.pointer (some ⟨p7,0,none⟩),undef,.pointer (some ⟨q,0,none⟩),.pointer (some ⟨p10,0,none⟩),undef,undef,.pointer (some ⟨fb,0,none⟩),.agg #[.bool s6,.slice o6 k6 c6],.slice (some ⟨ug,uoff,none⟩) n uc,.int .i64 (n:Int),.slice (some ⟨xg,0,none⟩) n n,.pointer (some ⟨fb,0,none⟩),.pointer (some ⟨fb,0,none⟩),.pointer (some ⟨fb,1,none⟩),.slice sa n sc,.func (.func 116) #[] #[.pointer (some ⟨Bs,0,none⟩)],.int .i64 (x:Int),v24,v25,v26,v27,v28,v29,v30,v31,undef,undef,undef,undef,undef,undef,undef,undef,undef,undef,undef,undef,undef,undef,undef,undef,undef,undef,undef,undef,undef,undef,undef,undef,undef,undef,undef,undef,undef,undef,undef,undef,undef,undef,undef,undef],defers:=[] } V:=by
   intro p10 V s o k c v25 v26 v27 v28 v29 v30 v31 K1 hp10 r10 hz
   refine hK5 _ _ ?_
   clear hK5
   --%K
   have HB2:=hid (And.intro (HB.out.1.later K1) (And.intro (HB.out.2.2.2.2.1.kept K1) (And.intro K1 (And.intro hp10 (And.intro r10 hz)))))
   have q6:=HB2.out.2.1.cell 6 _ rfl
   obtain ⟨ob,hrun,hR⟩:=rangeM (.inr ⟨S.ba,rfl,HB.out.2.2.2.2.2.2.1.kept K1⟩:RowM B V (.map (some S.ba)) n (acr n M ps j))
   have kR:=(Kept.refl V).alloc ob
   clear K1 hp10 r10 hz
   gi_wp2_with fail
   obtain ⟨r,hr⟩:∃ r,r = V.heap.size:=⟨_,rfl⟩
   rw [← hr] at hR ⊢
   generalize V.alloc ob = V1 at hR kR ⊢
   have HR2:=hid (And.intro hR (And.intro kR (show W.heap.size≤r by have:=HB2.out.2.2.1.size; omega)))
   clear hrun hr q6 hR kR
   --%N
   gi_loopg [35] n (fun gg _ wr => ∃ (D:List Nat) (s:Bool) (o:Option Addr) (k c:Nat),Hid (Kept W wr∧RowL 37 wr p10 [.bool s,.slice o k c]∧ZN W.heap.size wr s (.slice o k c) (rsD n M b ps zs j S.r D)∧RgO B wr r (some S.ba) n (acr n M ps j) D∧n - D.length≤gg))
   case atStart => exact ⟨[],s,o,k,c,HB2.out.2.2.1.trans HR2.out.2.1,HB2.out.2.2.2.2.1.kept HR2.out.2.1,by unfold rsD; rw [List.map_nil,List.sum_nil,Int.sub_zero]; exact HB2.out.2.2.2.2.2.kept HR2.out.2.1,HR2.out.1,by simp⟩
   case round =>
    obtain ⟨D,s,o,k,c,H⟩:=hrel
    rcases nextM H.out.2.2.2.1 with ⟨hD,hnx⟩ | ⟨key,v,y1,g1,g2,g3,g4,g5,g6,g7,hnx,hen⟩
    ·
     have hnx:=hnx 0
     have HD:=hid hD
     clear hD
     --%O
     gi_wp2_with fail
     --%P
     have hnd:=H.out.2.2.2.1.nd
     obtain ⟨zz,hzz⟩:∃ z,z = lastP M ps * sdF n M b ps S.r - msum n (acr n M ps j) zs:=⟨_,rfl⟩
     have hz:ZN W.heap.size wr s (.slice o k c) zz:=by rw [hzz,← rsD_done (r:=S.r) hnd.1 hnd.2 HD.out]; exact H.out.2.2.1
     obtain ⟨pv,hpv⟩:∃ z,z = stg M (ps.take j) S.r S.c:=⟨_,rfl⟩
     have hpz:=HB.out.2.2.2.2.2.1.piv
     have hzp:=HB.out.2.2.2.2.2.2.2.1
     rw [← hpv] at hpz hzp
     obtain ⟨y,hy⟩:∃ z,z = quo0 zz pv:=⟨_,rfl⟩
     have hq0:y * pv = zz ∨ (¬ pv ∣ zz∧y = 0):=by rw [hy]; exact quo0_is
     have HY:=hid (show y = quo0 (lastP M ps * sdF n M b ps S.r - msum n (acr n M ps j) zs) (stg M (ps.take j) S.r S.c) by rw [hy,hzz,hpv])
     have hc10:=hid (fun (V:World) (K:Kept wr V) => over0_any s S.s1 o S.o1 k c S.k1 S.c1 zz pv y V (hz.zi.kept K) ((hzp.kept (H.out.1.trans K)).zi) hpz hq0)
     obtain ⟨g',t1,t2,t3,t4,e,hgl,x1,x2,_,hfz⟩:=(HB.out.1.later H.out.1).x.at HB.out.2.2.2.2.2.1.hc
     cases e
     have HX1:=hid (And.intro hgl hfz)
     have sS:=hid (fun (V:World) (K:Kept wr V) => show (fun w':World => w'.cell? ⟨p7,0,none⟩ = some (.slice (some ⟨xg,0,none⟩) n n)∧w'.cell? ⟨q,1,none⟩ = some (.int .i64 (S.c:Int))∧w'.cell? ⟨p10,0,none⟩ = some (.bool s)∧w'.cell? ⟨p10,1,none⟩ = some (.slice o k c)∧w'.cell? ⟨q,2,none⟩ = some (.bool S.s1)∧w'.cell? ⟨q,3,none⟩ = some (.slice S.o1 S.k1 S.c1)∧w'.cell? ⟨xg,S.c * 2,none⟩ = some (.bool t1)∧w'.cell? ⟨xg,S.c * 2 + 1,none⟩ = some (.slice t2 t3 t4)) V from ⟨((HB.out.1.later H.out.1).later K).b7.cell 0 _,((HB.out.2.2.2.2.1.kept H.out.1).kept K).cell 1 _ rfl,(H.out.2.1.kept K).cell 0 _ rfl,(H.out.2.1.kept K).cell 1 _ rfl,((HB.out.2.2.2.2.1.kept H.out.1).kept K).cell 2 _ rfl,((HB.out.2.2.2.2.1.kept H.out.1).kept K).cell 3 _ rfl,(K.cell (p:=⟨xg,S.c * 2,none⟩) hgl.2).trans x1,(K.cell (p:=⟨xg,S.c * 2 + 1,none⟩) hgl.2).trans x2⟩)
     have i3:(0:Int)≤(S.c:Int):=by omega
     have i4:(S.c:Int) < (n:Int):=by have:=HB.out.2.2.2.2.2.1.hc; omega
     clear hnd hzz hz hpv hpz hzp hy hq0 hgl x1 x2 hfz hnx
     have KT:Kept wr wr.drew:=(Kept.refl _).drew
     refine rg_z 8 (S:=fun w' => w'.cell? ⟨p7,0,none⟩ = some (.slice (some ⟨xg,0,none⟩) n n)∧w'.cell? ⟨q,1,none⟩ = some (.int .i64 (S.c:Int))∧w'.cell? ⟨p10,0,none⟩ = some (.bool s)∧w'.cell? ⟨p10,1,none⟩ = some (.slice o k c)∧w'.cell? ⟨q,2,none⟩ = some (.bool S.s1)∧w'.cell? ⟨q,3,none⟩ = some (.slice S.o1 S.k1 S.c1)∧w'.cell? ⟨xg,S.c * 2,none⟩ = some (.bool t1)∧w'.cell? ⟨xg,S.c * 2 + 1,none⟩ = some (.slice t2 t3 t4)) (by kernel_rfl) (by kernel_rfl) (by rintro ⟨a,w,h⟩; exact h) (sS.out _ KT) (fun hHeld => ?_)
     generalize wr.drew = Wd at KT hHeld ⊢
     refine X.zk 0 hHeld ?_
     refine X.zk 1 hHeld ?_
     refine X.zk 2 hHeld ?_
     refine X.zk 3 hHeld ?_
     refine X.zk 4 hHeld ?_
     refine X.zk 5 hHeld ?_
     refine X.zr 6 fun K hK => ?_
     go_simp
     refine (hc10.out Wd KT).mono ?_
     rintro e v5 ⟨hk,s5,o5,k5,c5,rfl,hz5⟩
     refine hK.out _ _ (sS.out _ (KT.trans hk)) (fun hHeld => ?_)
     clear hK K
     have K5:=KT.trans hk
     have hz5:=hz5.mono (show w.heap.size≤Wd.heap.size from Nat.le_trans HB.out.1.kept.size (Nat.le_trans H.out.1.size KT.size))
     have f1:v5.frozen? ⟨xg,S.c * 2,none⟩ = false:=(K5.frozens xg (S.c * 2) HX1.out.1.2).trans (HX1.out.2 _)
     have f2:v5.frozen? ⟨xg,S.c * 2 + 1,none⟩ = false:=(K5.frozens xg (S.c * 2 + 1) HX1.out.1.2).trans (HX1.out.2 _)
     refine X.zr 7 fun K hK => ?_
     go_simp
     refine hK.out _ _ hHeld (fun hHeld => ?_)
     clear hK K
     have h9:=hHeld.2.2.2.2.2.2.1
     have h10:=hHeld.2.2.2.2.2.2.2
     refine X.zl fun K hK => ?_
     go_simp
     refine hK.out _ _ ?_
     clear hK K hHeld h9 h10
     refine X.zd ?_
     have KW5:=H.out.1.trans K5
     obtain ⟨hput,kx⟩:=(HB.out.1.later KW5).put HB.out.2.2.2.2.2.1.hc hz5
     have hq6:=RowL_kx (HB.out.2.2.2.2.1.kept KW5) kx ((HB.out.1.later KW5).x.free HLt.out.2 (by decide))
     generalize (v5.setCell ⟨xg,S.c * 2,none⟩ (.bool s5)).setCell ⟨xg,S.c * 2 + 1,none⟩ (.slice o5 k5 c5) = v6 at hput kx hq6 ⊢
     have H6:=hid (And.intro hput (And.intro (show KX (fun k => k = xg) W v6 from (KX.of KW5).trans kx) hq6))
     clear f1 f2 hz5 hk K5 KT hput kx hq6 KW5 sS hc10 HX1
     --%S
     gi_wp2_with fail
     obtain ⟨g',t1,t2,t3,t4,e,hgl,x1,x2,x3,hfz⟩:=H6.out.1.x.at HB.out.2.2.2.2.2.1.hc
     cases e
     have hyy:upd zs S.c y S.c = y:=by unfold upd; rw [if_pos rfl]
     rw [hyy] at x3
     have HX6:=hid x3.zi
     have hfb:=(HH.out.1.kept H6.out.1.kept).box
     have sS:=hid (fun (V:World) (K:Kept v6 V) => show (fun w':World => w'.cell? ⟨p7,0,none⟩ = some (.slice (some ⟨xg,0,none⟩) n n)∧w'.cell? ⟨q,1,none⟩ = some (.int .i64 (S.c:Int))∧w'.cell? ⟨xg,S.c * 2,none⟩ = some (.bool t1)∧w'.cell? ⟨xg,S.c * 2 + 1,none⟩ = some (.slice t2 t3 t4)∧w'.cell? ⟨p2,0,none⟩ = some (.pointer (some ⟨fb,0,none⟩))∧w'.cell? ⟨fb,0,none⟩ = some (.int .i64 (limbs:Int))) V from ⟨(H6.out.1.later K).b7.cell 0 _,(H6.out.2.2.kept K).cell 1 _ rfl,(K.cell (p:=⟨xg,S.c * 2,none⟩) hgl.2).trans x1,(K.cell (p:=⟨xg,S.c * 2 + 1,none⟩) hgl.2).trans x2,(H6.out.1.later K).b2.cell 0 _,(hfb.kept K).cell 0 _ rfl⟩)
     clear hgl x1 x2 x3 hfz hyy hfb
     have KT:Kept v6 v6.drew:=(Kept.refl _).drew
     obtain ⟨bw,hbw⟩:∃ x,x = wideZ limbs y:=⟨_,rfl⟩
     have HBw:=hid hbw
     clear hbw
     cases bw with
     | true =>
      have hF11:=hid (fun (V:World) (K:Kept v6 V) => fits_zi t1 t2 t3 t4 y limbs V (HX6.out.kept K))
      refine rg_h (S:=fun w' => w'.cell? ⟨p7,0,none⟩ = some (.slice (some ⟨xg,0,none⟩) n n)∧w'.cell? ⟨q,1,none⟩ = some (.int .i64 (S.c:Int))∧w'.cell? ⟨xg,S.c * 2,none⟩ = some (.bool t1)∧w'.cell? ⟨xg,S.c * 2 + 1,none⟩ = some (.slice t2 t3 t4)∧w'.cell? ⟨p2,0,none⟩ = some (.pointer (some ⟨fb,0,none⟩))∧w'.cell? ⟨fb,0,none⟩ = some (.int .i64 (limbs:Int))) (by kernel_rfl) (by kernel_rfl) (by rintro ⟨a,w,h⟩; exact h) (sS.out _ KT) (fun hHeld => ?_)
      generalize v6.drew = Wd at KT hHeld ⊢
      refine wk 0 hHeld ?_
      refine wk 1 hHeld ?_
      refine wk 2 hHeld ?_
      refine wk 3 hHeld ?_
      refine wk 4 hHeld ?_
      refine wk 5 hHeld ?_
      refine wk 6 hHeld ?_
      refine wk 7 hHeld ?_
      refine wk 8 hHeld ?_
      refine rdy 9 fun K hK => ?_
      go_simp
      refine (hF11.out Wd KT).mono ?_
      rintro e v7 ⟨rfl,hk⟩
      rw [← HBw.out]
      refine hK.out _ _ (sS.out _ (KT.trans hk)) (fun hHeld => ?_)
      clear hK K
      have K7:=KT.trans hk
      refine wk 10 hHeld ?_
      refine _root_.Go.Proofs.YtdcfammglpebaaaGreat.dn ?_
      clear hHeld
      have HK7:=hid (And.intro (H6.out.1.later K7) K7)
      have HB7:=hid (And.intro (HK7.out.1.b4.cell 0 _ rfl) (HK7.out.1.b5.cell 0 _ rfl))
      have d4:=HK7.out.1.b4.cell 0 _ rfl
      have d5:=HK7.out.1.b5.cell 0 _ rfl
      have f4:=HK7.out.1.b4.fz 0
      have f5:=HK7.out.1.b5.fz 0
      have h45:=HP.out.2.2.2.2
      have h54:p5 ≠ p4:=fun e => h45 e.symm
      clear K7 hk KT HB7
      --%U
      gi_wp2_with fail
      have hI7:=HK7.out.1
      have q4:RowL 23 ((v7.setCell ⟨p4,0,none⟩ (.slice none 0 0)).setCell ⟨p5,0,none⟩ (.int .i64 13)) p4 [.slice none 0 0]:=(RowL.set hI7.b4 0 (.slice none 0 0)).far h45 0 (.int .i64 13)
      have q5:RowL 28 ((v7.setCell ⟨p4,0,none⟩ (.slice none 0 0)).setCell ⟨p5,0,none⟩ (.int .i64 13)) p5 [.int .i64 13]:=(RowL.far hI7.b5 h54 0 (.slice none 0 0)).set 0 (.int .i64 13)
      have kx:KX (fun k => k = xg ∨ k = p4 ∨ k = p5) W ((v7.setCell ⟨p4,0,none⟩ (.slice none 0 0)).setCell ⟨p5,0,none⟩ (.int .i64 13)):=(((H6.out.2.1.mono (fun i hi => .inl hi)).trans (KX.of HK7.out.2)).setCell (p:=⟨p4,0,none⟩) (.inl (.inr (.inl rfl))) _).setCell (p:=⟨p5,0,none⟩) (.inl (.inr (.inr rfl))) _
      refine ⟨kx_fromT kx (fun g hg => ?_),⟨KX.kept HB.out.1.kept kx (fun g hg => ?_),q4,q5⟩,rfl,S.c,HB.out.2.2.2.2.2.1.hc,?_⟩
      ·
       rcases hg with rfl | rfl | rfl
       ·
        exact sdx_cells HB.out.1.x HLt.out.2
       ·
        exact row_cells HB.out.1.b4
       ·
        exact row_cells HB.out.1.b5
      ·
       have h1:=HX.out.2
       have h2:=HP.out
       rcases hg with rfl | rfl | rfl <;> omega
      ·
       rw [HB.out.2.2.2.2.2.2.2.2.2]
       unfold upd
       rw [if_pos rfl,← HY.out]
       exact HBw.out.symm
     | false =>
      have hF11:=hid (fun (V:World) (K:Kept v6 V) => fits_zi t1 t2 t3 t4 y limbs V (HX6.out.kept K))
      refine rg_h (S:=fun w' => w'.cell? ⟨p7,0,none⟩ = some (.slice (some ⟨xg,0,none⟩) n n)∧w'.cell? ⟨q,1,none⟩ = some (.int .i64 (S.c:Int))∧w'.cell? ⟨xg,S.c * 2,none⟩ = some (.bool t1)∧w'.cell? ⟨xg,S.c * 2 + 1,none⟩ = some (.slice t2 t3 t4)∧w'.cell? ⟨p2,0,none⟩ = some (.pointer (some ⟨fb,0,none⟩))∧w'.cell? ⟨fb,0,none⟩ = some (.int .i64 (limbs:Int))) (by kernel_rfl) (by kernel_rfl) (by rintro ⟨a,w,h⟩; exact h) (sS.out _ KT) (fun hHeld => ?_)
      generalize v6.drew = Wd at KT hHeld ⊢
      refine wk 0 hHeld ?_
      refine wk 1 hHeld ?_
      refine wk 2 hHeld ?_
      refine wk 3 hHeld ?_
      refine wk 4 hHeld ?_
      refine wk 5 hHeld ?_
      refine wk 6 hHeld ?_
      refine wk 7 hHeld ?_
      refine wk 8 hHeld ?_
      refine rdy 9 fun K hK => ?_
      go_simp
      refine (hF11.out Wd KT).mono ?_
      rintro e v7 ⟨rfl,hk⟩
      rw [← HBw.out]
      refine hK.out _ _ (sS.out _ (KT.trans hk)) (fun hHeld => ?_)
      clear hK K
      have K7:=KT.trans hk
      refine wk 10 hHeld ?_
      refine _root_.Go.Proofs.YtdcfammglpebaaaGreat.dn ?_
      clear hHeld
      have HK7:=hid (And.intro (H6.out.1.later K7) K7)
      have HB7:=hid (And.intro (HK7.out.1.b4.cell 0 _ rfl) (HK7.out.1.b5.cell 0 _ rfl))
      clear K7 hk KT HB7
      --%W
      gi_wp2_with fail
      have kx:KX (fun k => k = xg) W v7:=H6.out.2.1.trans (KX.of HK7.out.2)
      have hzb:=HB.out.2.2.1
      have hbs:=HBs.out
      refine ⟨kx_from kx (sdx_cells HB.out.1.x HLt.out.2),kx_keepB kx (by omega) (by omega) (fun i hi => ?_),?_,?_,?_⟩
      ·
       have h1:=hsag2 i hi
       have h2:=HB.out.1.kept.size
       have h3:=HX.out.2
       omega
      ·
       rw [HB.out.2.2.2.2.2.2.2.2.2,← HY.out]
       exact HK7.out.1
      ·
       intro i hi
       rw [HB.out.2.2.2.2.2.2.2.2.2,← HY.out]
       unfold upd
       by_cases e:i = S.c
       ·
        rw [if_pos e]; exact HBw.out.symm
       ·
        rw [if_neg e]; exact HB.out.2.1 i hi
      ·
       have:=kx.size
       omega
    ·
     have hnx:=hnx 0
     --%Q
     obtain ⟨e1,e2,e3,e4,rfl,hzv,_⟩:=g4.zn
     have KW1:Kept W y1:=KX.kept H.out.1 g6 (fun i hi => by rw [hi]; exact HR2.out.2.2)
     have hf10:=H.out.2.2.2.1.free
     have r10':=RowL_kx H.out.2.1 g6 (hf10 _)
     have hz10:=H.out.2.2.1.kx g6 (hf10 _)
     have hlen:=g5.len
     have hnd:=g5.nd
     have r12:=RowL.alloc 37 y1 [.bool e1,.slice e2 e3 e4]
     have k12:=(Kept.refl y1).alloc (.cells #[.bool e1,.slice e2 e3 e4] 37)
     have HG:=hid (And.intro g3 (And.intro KW1 (And.intro r10' (And.intro hz10 (And.intro g5 (And.intro hlen (And.intro hnd hzv)))))))
     clear g1 g2 g3 g4 g5 g6 g7 hf10 r10' hz10 hlen hnd hzv KW1
     gi_wp2_with fail
     obtain ⟨p12,hp12⟩:∃ p,p = y1.heap.size:=⟨_,rfl⟩
     rw [← hp12] at r12 ⊢
     generalize y1.alloc (.cells #[.bool e1,.slice e2 e3 e4] 37) = y2 at r12 k12 ⊢
     have HG2:=hid (And.intro r12 k12)
     clear r12 k12 hp12 hnx hen
     obtain ⟨g',t1,t2,t3,t4,e,hgl,x1,x2,x3,hfz⟩:=(HB.out.1.later (HG.out.2.1.trans HG2.out.2)).x.at HG.out.1
     cases e
     have i3:(0:Int)≤(key:Int):=by omega
     have i4:(key:Int) < (n:Int):=by have:=HG.out.1; omega
     have hal:(acr n M ps j key * zs key).natAbs < _root_.Go.Proofs.YtdcfammglpebaaaGreat.M.W72:=mul_lim (HB.out.2.2.2.2.2.1.acr key) (HB.out.2.2.2.2.2.2.2.2.1 key HG.out.1)
     have hrl:(rsD n M b ps zs j S.r D - acr n M ps j key * zs key).natAbs < _root_.Go.Proofs.YtdcfammglpebaaaGreat.M.W72:=by rw [← rsD_cons]; exact rsD_lim HB.out.2.2.2.2.2.1 HB.out.2.2.2.2.2.2.2.2.1 HG.out.2.2.2.2.2.2.1.2 (by have:=HG.out.2.2.2.2.2.1; omega)
     have hc1:=hid (fun (V:World) (K:Kept y2 V) => times_any e1 t1 e2 t2 e3 e4 t3 t4 _ _ V (((HG.out.2.2.2.2.2.2.2.kept HG2.out.2).kept K).zi) (x3.zi.kept K) hal)
     have hc2:=hid (fun (s9:Bool) (o9:Option Addr) (k9 c9:Nat) (V:World) (K:Kept y2 V) (hzz:ZI V s9 (.slice o9 k9 c9) (acr n M ps j key * zs key)) => minus_any s s9 o o9 k c k9 c9 _ _ V (((HG.out.2.2.2.1.kept HG2.out.2).kept K).zi) hzz hrl)
     have sS:=hid (fun (V:World) (K:Kept y2 V) => show (fun w':World => w'.cell? ⟨p10,0,none⟩ = some (.bool s)∧w'.cell? ⟨p10,1,none⟩ = some (.slice o k c)∧w'.cell? ⟨p12,0,none⟩ = some (.bool e1)∧w'.cell? ⟨p12,1,none⟩ = some (.slice e2 e3 e4)∧w'.cell? ⟨p7,0,none⟩ = some (.slice (some ⟨xg,0,none⟩) n n)∧w'.cell? ⟨xg,key * 2,none⟩ = some (.bool t1)∧w'.cell? ⟨xg,key * 2 + 1,none⟩ = some (.slice t2 t3 t4)) V from ⟨((HG.out.2.2.1.kept HG2.out.2).kept K).cell 0 _ rfl,((HG.out.2.2.1.kept HG2.out.2).kept K).cell 1 _ rfl,(HG2.out.1.kept K).cell 0 _ rfl,(HG2.out.1.kept K).cell 1 _ rfl,((HB.out.1.later (HG.out.2.1.trans HG2.out.2)).later K).b7.cell 0 _,(K.cell (p:=⟨xg,key * 2,none⟩) hgl.2).trans x1,(K.cell (p:=⟨xg,key * 2 + 1,none⟩) hgl.2).trans x2⟩)
     clear x1 x2 x3 hfz hgl hal hrl
     have KT:Kept y2 y2.drew:=(Kept.refl _).drew
     refine rg_z 8 (S:=fun w' => w'.cell? ⟨p10,0,none⟩ = some (.bool s)∧w'.cell? ⟨p10,1,none⟩ = some (.slice o k c)∧w'.cell? ⟨p12,0,none⟩ = some (.bool e1)∧w'.cell? ⟨p12,1,none⟩ = some (.slice e2 e3 e4)∧w'.cell? ⟨p7,0,none⟩ = some (.slice (some ⟨xg,0,none⟩) n n)∧w'.cell? ⟨xg,key * 2,none⟩ = some (.bool t1)∧w'.cell? ⟨xg,key * 2 + 1,none⟩ = some (.slice t2 t3 t4)) (by kernel_rfl) (by kernel_rfl) (by rintro ⟨a,w,h⟩; exact h) (sS.out _ KT) (fun hHeld => ?_)
     generalize y2.drew = Wd at KT hHeld ⊢
     refine X.zk 0 hHeld ?_
     refine X.zk 1 hHeld ?_
     refine X.zk 2 hHeld ?_
     refine X.zk 3 hHeld ?_
     refine X.zk 4 hHeld ?_
     refine X.zk 5 hHeld ?_
     refine X.zr 6 fun K hK => ?_
     go_simp
     refine (hc1.out Wd KT).mono ?_
     rintro e v5 ⟨hk,s9,o9,k9,c9,rfl,hz9⟩
     refine hK.out _ _ (sS.out _ (KT.trans hk)) (fun hHeld => ?_)
     clear hK K
     have K5:=KT.trans hk
     clear hk KT
     have hm:=hc2.out s9 o9 k9 c9 v5 K5 hz9.zi
     clear hz9
     refine X.zr 7 fun K hK => ?_
     go_simp
     refine hm.mono ?_
     rintro e v6 ⟨hk,s7,o7,k7,c7,rfl,hz7⟩
     refine hK.out _ _ (sS.out _ (K5.trans hk)) (fun hHeld => ?_)
     clear hK K
     have K6:=HG2.out.2.trans (K5.trans hk)
     have hz7:=hz7.mono (show W.heap.size≤v5.heap.size from Nat.le_trans (HG.out.2.1.trans HG2.out.2).size K5.size)
     have r10:=HG.out.2.2.1.kept K6
     have c90:=r10.cell 0 _
     have c91:=r10.cell 1 _
     have g90:=r10.fz 0
     have g91:=r10.fz 1
     refine X.zl fun K hK => ?_
     go_simp
     refine hK.out _ _ ?_
     clear hK K hHeld
     refine X.zd ?_
     have hp10:=HB2.out.2.2.2.1
     have hrk:=(HG.out.2.2.2.2.1.kept K6).kx (((KX.refl v6).setCell (T:=fun k => k = p10) (p:=⟨p10,0,none⟩) (.inl rfl) (.bool s7)).setCell (p:=⟨p10,1,none⟩) (.inl rfl) (.slice o7 k7 c7)) (rowl_free r10 (by decide)) ((HG.out.2.2.2.2.1.kept K6).far_row r10) (fun b' hb' e => by cases hb'; have h1:=HB.out.2.2.2.2.2.2.1.lt; omega)
     have H9:=hid (And.intro (((HG.out.2.1.trans K6).setCell (p:=⟨p10,0,none⟩) hp10 (.bool s7)).setCell (p:=⟨p10,1,none⟩) hp10 (.slice o7 k7 c7)) (And.intro ((r10.set 0 (.bool s7)).set 1 (.slice o7 k7 c7)) (And.intro (zn_row hz7 r10 (by decide) (.bool s7) (.slice o7 k7 c7)) hrk)))
     generalize (v6.setCell ⟨p10,0,none⟩ (.bool s7)).setCell ⟨p10,1,none⟩ (.slice o7 k7 c7) = v8 at H9 ⊢
     clear c90 c91 g90 g91 r10 hz7 hrk hk K6 K5 hm
     --%R
     gi_wp2_with fail
     gi_roundg (n - (D.length + 1))
     case measure => have h1:=HG.out.2.2.2.2.2.1; simp only [List.length_cons] at h1; have:=H.out.2.2.2.2; omega
     case rel => exact ⟨key :: D,s7,o7,k7,c7,H9.out.1,H9.out.2.1,by rw [rsD_cons]; exact H9.out.2.2.1,H9.out.2.2.2,by simp⟩
  clear hK5
  have KT:Kept W W.drew:=(Kept.refl _).drew
  have sS:=hid (fun (V:World) (K:Kept W V) => show (fun w':World => w'.cell? ⟨p6,0,none⟩ = some (.bool s6)∧w'.cell? ⟨p6,1,none⟩ = some (.slice o6 k6 c6)∧w'.cell? ⟨p3,0,none⟩ = some (.slice (some ⟨ug,uoff,none⟩) n uc)∧w'.cell? ⟨q,0,none⟩ = some (.int .i64 (S.r:Int))∧w'.cell? ⟨ug,uoff + S.r * 2,none⟩ = some (.bool s8)∧w'.cell? ⟨ug,uoff + S.r * 2 + 1,none⟩ = some (.slice o8 k8 c8)) V from ⟨(HB.out.1.later K).b6.cell 0 _,(HB.out.1.later K).b6.cell 1 _,(HB.out.1.later K).b3.cell 0 _,(HB.out.2.2.2.2.1.kept K).cell 0 _ rfl,(K.cell (p:=⟨ug,uoff + S.r * 2,none⟩) HU.out.1).trans HU.out.2.1,(K.cell (p:=⟨ug,uoff + S.r * 2 + 1,none⟩) HU.out.1).trans HU.out.2.2.1⟩)
  have hcall:=hid (fun (V:World) (K:Kept W V) => times_any s6 s8 o6 o8 k6 c6 k8 c8 _ _ V (HB.out.1.later K).d.zi (HU.out.2.2.2.kept K) (mul_lim HB.out.2.2.2.2.2.1.last HB.out.2.2.2.2.2.1.side))
  refine rg_z 8 (S:=fun w' => w'.cell? ⟨p6,0,none⟩ = some (.bool s6)∧w'.cell? ⟨p6,1,none⟩ = some (.slice o6 k6 c6)∧w'.cell? ⟨p3,0,none⟩ = some (.slice (some ⟨ug,uoff,none⟩) n uc)∧w'.cell? ⟨q,0,none⟩ = some (.int .i64 (S.r:Int))∧w'.cell? ⟨ug,uoff + S.r * 2,none⟩ = some (.bool s8)∧w'.cell? ⟨ug,uoff + S.r * 2 + 1,none⟩ = some (.slice o8 k8 c8)) (by kernel_rfl) (by kernel_rfl) (by rintro ⟨a,w,h⟩; exact h) (sS.out _ KT) (fun hHeld => ?_)
  generalize W.drew = Wd at KT hHeld ⊢
  refine X.zk 0 hHeld ?_
  refine X.zk 1 hHeld ?_
  refine X.zk 2 hHeld ?_
  refine X.zk 3 hHeld ?_
  refine X.zk 4 hHeld ?_
  refine X.zk 5 hHeld ?_
  refine X.anyZ_ready (rs:=[6,7]) (by kernel_rfl) (by simp) (X.AllZ.cons rfl (fun K hK => ?_) (X.AllZ.cons rfl (fun K hK => ?_) X.AllZ.nil))
  ·
   --%L
   go_simp
   refine (hcall.out Wd KT).mono ?_
   rintro e u1 ⟨hk,s,o,k,c,rfl,hz⟩
   have hz:=hz.mono (show W.heap.size≤Wd.heap.size from KT.size)
   refine hK.out _ _ (sS.out _ (KT.trans hk)) (fun hHeld => ?_)
   clear hK K
   have KT:=KT.trans hk
   refine X.zr 7 fun K hK => ?_
   go_simp
   refine hK.out _ _ (sS.out _ (KT.alloc _)) (fun hHeld => ?_)
   clear hK K
   have r10:=RowL.alloc 37 u1 [.bool false,.slice none 0 0]
   have hp10:W.heap.size≤u1.heap.size:=KT.size
   have KA:=(Kept.refl u1).alloc (.cells #[.bool false,.slice none 0 0] 37)
   have KT:=KT.alloc (.cells #[.bool false,.slice none 0 0] 37)
   obtain ⟨p10,hg9⟩:∃ p,p = u1.heap.size:=⟨_,rfl⟩
   rw [← hg9] at r10 hp10 ⊢
   generalize u1.alloc (.cells #[.bool false,.slice none 0 0] 37) = Wa at r10 KA KT hHeld ⊢
   clear hg9
   have hz:=hz.kept KA
   have c90:=r10.cell 0 _
   have c91:=r10.cell 1 _
   have g90:=r10.fz 0
   have g91:=r10.fz 1
   refine X.zl fun K hK => ?_
   go_simp
   refine hK.out _ _ ?_
   clear hK K
   refine X.zd ?_
   exact HR p10 _ s o k c _ _ _ _ _ _ _ ((KT.setCell (p:=⟨p10,0,none⟩) hp10 _).setCell (p:=⟨p10,1,none⟩) hp10 _) hp10 ((r10.set 0 _).set 1 _) (zn_row hz r10 (by decide) _ _)
  ·
   --%M
   go_simp
   refine hK.out _ _ (sS.out _ (KT.alloc _)) (fun hHeld => ?_)
   clear hK K
   have r10:=RowL.alloc 37 Wd [.bool false,.slice none 0 0]
   have hp10:W.heap.size≤Wd.heap.size:=KT.size
   have KA:=(Kept.refl Wd).alloc (.cells #[.bool false,.slice none 0 0] 37)
   have KT:=KT.alloc (.cells #[.bool false,.slice none 0 0] 37)
   obtain ⟨p10,hg9⟩:∃ p,p = Wd.heap.size:=⟨_,rfl⟩
   rw [← hg9] at r10 hp10 ⊢
   generalize Wd.alloc (.cells #[.bool false,.slice none 0 0] 37) = Wa at r10 KA KT hHeld ⊢
   clear hg9
   refine X.zr 6 fun K hK => ?_
   go_simp
   refine (hcall.out Wa KT).mono ?_
   rintro e u1 ⟨hk,s,o,k,c,rfl,hz⟩
   have hz:=hz.mono (show W.heap.size≤Wa.heap.size from KT.size)
   refine hK.out _ _ (sS.out _ (KT.trans hk)) (fun hHeld => ?_)
   clear hK K
   have KT:=KT.trans hk
   have r10:=r10.kept hk
   have c90:=r10.cell 0 _
   have c91:=r10.cell 1 _
   have g90:=r10.fz 0
   have g91:=r10.fz 1
   refine X.zl fun K hK => ?_
   go_simp
   refine hK.out _ _ ?_
   clear hK K
   refine X.zd ?_
   exact HR p10 _ s o k c _ _ _ _ _ _ _ ((KT.setCell (p:=⟨p10,0,none⟩) hp10 _).setCell (p:=⟨p10,1,none⟩) hp10 _) hp10 ((r10.set 0 _).set 1 _) (zn_row hz r10 (by decide) _ _)
 case done =>
  rintro D xs W hD hS ⟨hI,hno,hsz⟩ hK
  have c7:=hI.b7.cell 0 _
  have d4:=hI.b4.cell 0 _
  have d5:=hI.b5.cell 0 _
  have f4:=hI.b4.fz 0
  have f5:=hI.b5.fz 0
  have HI:=hid (And.intro hI (And.intro hno (And.intro hK hS)))
  have h45:=HP.out.2.2.2.2
  have h54:p5 ≠ p4:=fun e => h45 e.symm
  clear hI hno hK hS
  --%H
  go_wp2_with fail
  obtain ⟨hI,hno,hK,hS⟩:=HI.out
  obtain ⟨q1,q2,q3,q4,q5⟩:=end_kx (v:=.slice (some ⟨xg,0,none⟩) n n) (u:=.int .i64 0) (.deferred none) hI.b4 hI.b5 hK
  have e4:=q2.cell 0 _
  have e5:=q3.cell 0 _
  refine ⟨by simp,.inl ⟨_,_,rfl,run_takeDeferred q5,.tuple #[.slice (some ⟨xg,0,none⟩) n n,.int .i64 0],by simp [results,Tryz.results47,go_sem,e4,e5],?_⟩⟩
  rw [HQ.out]
  have hd:bkX n M b ps (xs.map (clip n)) = bkA n M b ps:=by rw [hS,clip_dn (Nat.le_refl n)]; rfl
  rw [hd] at hI hno
  have hsz:=HP.out
  have hw9:=H9.out.kept.size
  refine ⟨KX.kept hI.kept q1 (fun k hk => by rcases hk with rfl | rfl | rfl <;> omega),.inr ⟨hno,_,_,rfl,?_⟩⟩
  exact SdX.mono2 (hI.x.kx (EN.keeps _) q1 (q4 _ (by decide) (by decide)) (q4 _ (by decide) (by decide))) hI.far.2
 case stop =>
  rintro D c pre W hD hSp ⟨hE,rfl,hw⟩ hK
  refine wpIn_ret ?_
  --%I
  have q1:=kx_putObj (W:=W) (D:=D) (.deferred none)
  have e4:=(hE.b4.block (w':=W.putObj D (.deferred none)) (World.putObj_heap_other (fun e => by obtain ⟨c,h,_⟩:=hE.b4; rw [e,hK] at h; cases h))).cell 0 _
  have e5:=(hE.b5.block (w':=W.putObj D (.deferred none)) (World.putObj_heap_other (fun e => by obtain ⟨c,h,_⟩:=hE.b5; rw [e,hK] at h; cases h))).cell 0 _
  refine ⟨by simp,.inl ⟨_,_,rfl,run_takeDeferred hK,.tuple #[.slice none 0 0,.int .i64 13],by simp [results,Tryz.results47,go_sem,e4,e5],?_⟩⟩
  rw [HQ.out]
  have hw9:=H9.out.kept.size
  obtain ⟨k,hk,rfl⟩:=hSp
  rw [clip_dn hk] at hw
  obtain ⟨j,hj,hw⟩:=hw
  refine ⟨KX.kept hE.kept q1 (fun k hk => by omega),.inl ⟨⟨j,hj,?_⟩,rfl⟩⟩
  cases e:wideZ limbs (bkA n M b ps j) with
  | true => rfl
  | false =>
   obtain ⟨i,hi,rfl⟩:=col_stage HF.out.1 HF.out.2.1 hj
   by_cases hik:n - k≤i
   ·
    rw [bkX_done HF.out.1 HF.out.2.1 hk hi hik,e] at hw
    cases hw
   ·
    rw [bkX_left HF.out.1 hk HF.out.2.1 hi (by omega),wide_0] at hw
    cases hw
end Bp
end Go.Proofs.YtdcfammglpebaaaGreat

namespace Go.Proofs.YtdcfammglpebaaaGreat
open Go.RowKit
open Ba (stg lastP pivs wideZ facS Fits)
namespace Bp
theorem solve_full (B fb n m limbs:Nat) (sa:Option Addr) (sc:Nat) (Ss:List StC) (M:Nat→Nat→Int) (bq:Nat→Bool) (b:Nat→Int) (ps:List (Nat × Nat)) (bo:Option Addr) (bc:Nat) (w:World) (h:FacR B w fb n limbs sa n sc Ss M ps) (hf:Fits n M ps) (hl:ps.length = n) (hs:facS n limbs M = (ps,0)) (hL:limbs≤32) (hn:n≤48) (hm:m≤1000000) (hq:IsL (ZQ bq) w (.slice bo m bc) m) (hI:(∀ j,j < m→bq j = true)→IL b w (.slice bo m bc) m) (hnil:bo = none→m = 0) :
  Calls Tryz.prog 17 #[.pointer (some ⟨fb,0,none⟩),.slice bo m bc] w (SolIs w n m limbs bq M b ps (bkA n M b ps)) :=
 solve_any B fb n m limbs sa sc Ss M bq b ps (bkA n M b ps) bo bc w h hf hl hs hL hn hm hq hI hnil fun W K uo uc hu hW => back_any B fb n limbs sa sc Ss M b ps uo uc W (h.kept K) hf hl hs hL hn hu hW
end Bp
end Go.Proofs.YtdcfammglpebaaaGreat

namespace Go.Proofs.YtdcfammglpebaaaGreat
open Go.RowKit
open V (RowL RowL.alloc RowL.lt RowL.cell RowL.fz RowL.kept)
open Sp (hid)
open Sy
open Bm (ZI ZI.kept ZI.of MxR ZsR mxr_at mxr_kept zsr_at zsr_kept cel_at mOk)
open Ba (stg lastP pivs wideZ facS Fits)
namespace Bp
theorem one_right {m:Nat} (h:0 < m) (h2:m < 4294967296):M.Right false [m]:=⟨fun x hx => by rw [List.mem_singleton.1 hx]; exact h2,.inr (by show m ≠ 0; omega),by show 1≤72; decide,fun h => by cases h⟩
theorem one_int (m:Nat):M.int false [m] = (m:Int):=by unfold M.int M.val; simp [M.val]
theorem one_eq {m:Nat} (h:0 < m) (h2:m < 4294967296) {s:Bool} {l:List Nat} (hr:M.Right s l) (hi:M.int s l = (m:Int)):s = false∧l = [m] :=
 M.int_inj hr (one_right h h2) (hi.trans (one_int m).symm)
theorem cell1_any (c x:Int) (m:Nat) (w:World) (hx:x = (m:Int)) (h:0 < m) (h2:m < 4294967296) :
  Calls Tryz.prog 32 #[.int .i64 c,.int .i64 x] w fun e w' => Kept w w'∧∃ ao cap,e = .returned (.agg #[.int .i64 c,.bool false,.slice ao 1 cap])∧ZE.ok w' ⟨false,ao,cap,[m]⟩:=by
 subst hx
 refine (Bm.cell14_any c (m:Int) w (by omega) (by omega)).mono ?_
 rintro e w' ⟨hk,s,ao,k,cap,l,rfl,hn,hr,hi⟩
 obtain ⟨rfl,rfl⟩:=one_eq h h2 hr hi
 have e1:=hn.sl.len
 subst e1
 exact ⟨hk,ao,cap,rfl,hn.sl,by show 1≤9223372036854775807; decide⟩
theorem of1_any (x:Int) (m:Nat) (w:World) (hx:x = (m:Int)) (h:0 < m) (h2:m < 4294967296) :
  Calls Tryz.prog 29 #[.int .i64 x] w fun e w' => Kept w w'∧∃ ao cap,e = .returned (.agg #[.bool false,.slice ao 1 cap])∧ZE.ok w' ⟨false,ao,cap,[m]⟩:=by
 subst hx
 refine (of_any (m:Int) w (by omega) (by omega)).mono ?_
 rintro e w' ⟨hk,s,ao,k,cap,l,rfl,hn,hr,hi⟩
 obtain ⟨rfl,rfl⟩:=one_eq h h2 hr hi
 have e1:=hn.sl.len
 subst e1
 exact ⟨hk,ao,cap,rfl,hn.sl,by show 1≤9223372036854775807; decide⟩
theorem ze_zi {w:World} {ao:Option Addr} {cap m:Nat} (h:ZE.ok w ⟨false,ao,cap,[m]⟩) (h1:0 < m) (h2:m < 4294967296):ZI w false (.slice ao 1 cap) (m:Int):=⟨[m],h.1,one_right h1 h2,one_int m⟩
theorem same_eq14 (m n:Bool) (ao bo:Option Addr) (k cap j cbp:Nat) (x y:Int) (w:World) (ha:ZI w m (.slice ao k cap) x) (hb:ZI w n (.slice bo j cbp) y) (h:x = y) :
  Calls Tryz.prog 15 #[.agg #[.bool m,.slice ao k cap],.agg #[.bool n,.slice bo j cbp]] w fun e w' => Kept w w'∧e = .returned (.bool true):=by
 refine (Bm.same14_any m n ao bo k cap j cbp x y w ha hb).mono ?_
 rintro e w' ⟨hk,rfl⟩
 rw [decide_eq_true h]
 exact ⟨hk,rfl⟩
theorem csr_row2 {w:World} {p:Nat} {c1 c2:CE} (r:RowL 39 w p (c1.cells ++ c2.cells)) (h1:c1.ok w) (h2:c2.ok w):CsR w (some ⟨p,0,none⟩) [c1,c2]:=fun _ => ⟨p,0,rfl,r.lt,fun i hi => by
 match i,hi with
 | 0,_ => exact ⟨fun j u hu => by change c1.cells[j]? = some u at hu; rw [show 0 + 0 * 3 + j = j by omega]; exact r.cell j u (by rw [List.getElem?_append_left (List.getElem?_eq_some_iff.1 hu).1]; exact hu),h1⟩
 | 1,_ => exact ⟨fun j u hu => by change c2.cells[j]? = some u at hu; rw [show 0 + 1 * 3 + j = 3 + j by omega]; exact r.cell (3 + j) u (by rw [List.getElem?_append_right (show c1.cells.length≤3 + j by show 3≤3 + j; omega),show 3 + j - c1.cells.length = j by show 3 + j - 3 = j; omega]; exact hu),h2⟩⟩
theorem mxr_row2 {w:World} {p:Nat} {l1 l2:LE} (r:RowL 34 w p [l1.v,l2.v]) (h1:CsR w l1.ao l1.cs) (h2:CsR w l2.ao l2.cs):MxR w (some ⟨p,0,none⟩) [l1,l2]:=fun _ => ⟨p,0,rfl,r.lt,fun i hi => by
 match i,hi with
 | 0,_ => exact ⟨fun j u hu => by
   match j,hu with
   | 0,hu => cases hu; exact r.cell 0 _,h1⟩
 | 1,_ => exact ⟨fun j u hu => by
   match j,hu with
   | 0,hu => cases hu; exact r.cell 1 _,h2⟩⟩
theorem zsr_row2 {w:World} {p:Nat} {z1 z2:ZE} (r:RowL 37 w p (z1.cells ++ z2.cells)) (h1:z1.ok w) (h2:z2.ok w):ZsR w (some ⟨p,0,none⟩) [z1,z2]:=fun _ => ⟨p,0,rfl,r.lt,fun i hi => by
 match i,hi with
 | 0,_ => exact ⟨fun j u hu => by change z1.cells[j]? = some u at hu; rw [show 0 + 0 * 2 + j = j by omega]; exact r.cell j u (by rw [List.getElem?_append_left (List.getElem?_eq_some_iff.1 hu).1]; exact hu),h1⟩
 | 1,_ => exact ⟨fun j u hu => by change z2.cells[j]? = some u at hu; rw [show 0 + 1 * 2 + j = 2 + j by omega]; exact r.cell (2 + j) u (by rw [List.getElem?_append_right (show z1.cells.length≤2 + j by show 2≤2 + j; omega),show 2 + j - z1.cells.length = j by show 2 + j - 2 = j; omega]; exact hu),h2⟩⟩
def zsF (L:List ZE) (j:Nat):Int:=M.int (L.getD j ⟨false,none,0,[]⟩).neg (L.getD j ⟨false,none,0,[]⟩).lim
def zsB (L:List ZE) (j:Nat):Bool:=(L.getD j ⟨false,none,0,[]⟩).right
theorem getD_in {α:Type} {L:List α} {d:α} {j:Nat} (hj:j < L.length):L.getD j d = L[j]:=by rw [List.getD_eq_getElem?_getD,List.getElem?_eq_getElem hj]; rfl
theorem zsr_q {w:World} {ao:Option Addr} {L:List ZE} (h:ZsR w ao L) (n c:Nat) (hn:n = L.length):IsL (ZQ (zsB L)) w (.slice ao n c) n:=by
 subst hn
 refine ⟨ao,c,rfl,fun h0 => ?_⟩
 obtain ⟨b,off,rfl,hb,hx⟩:=h h0
 refine ⟨b,off,rfl,hb,fun j hj => ?_⟩
 obtain ⟨h1,h2⟩:=hx j hj
 refine ⟨L[j].neg,L[j].ao,L[j].lim.length,L[j].cap,by have:=h1 0 _ rfl; rw [Nat.add_zero] at this; exact this,h1 1 _ rfl,L[j].lim,h2.1,h2.2,?_⟩
 unfold zsB
 rw [getD_in hj]
 exact right_R
theorem zsr_il {w:World} {ao:Option Addr} {L:List ZE} (h:ZsR w ao L) (n c:Nat) (hn:n = L.length) (hr:∀ j,j < n→zsB L j = true):IL (zsF L) w (.slice ao n c) n:=by
 subst hn
 refine ⟨ao,c,rfl,fun h0 => ?_⟩
 obtain ⟨b,off,rfl,hb,hx⟩:=h h0
 refine ⟨b,off,rfl,hb,fun j hj => ?_⟩
 obtain ⟨h1,h2⟩:=hx j hj
 have h3:=hr j hj
 unfold zsB at h3
 rw [getD_in hj] at h3
 refine ⟨L[j].neg,L[j].ao,L[j].lim.length,L[j].cap,by have:=h1 0 _ rfl; rw [Nat.add_zero] at this; exact this,h1 1 _ rfl,?_⟩
 unfold zsF
 dsimp only
 rw [getD_in hj]
 exact ZI.of h2 h3
theorem zsr_nil {w:World} {ao:Option Addr} {L:List ZE} (h:ZsR w ao L) (n:Nat) (hn:n = L.length):ao = none→n = 0:=fun e => by
 rcases Nat.eq_zero_or_pos n with h0 | h0
 ·
  exact h0
 ·
  obtain ⟨b,off,e2,_⟩:=h (by omega)
  rw [e] at e2
  cases e2
end Bp
end Go.Proofs.YtdcfammglpebaaaGreat

namespace Go.Proofs.YtdcfammglpebaaaGreat
open Go.RowKit
open V (RowL RowL.alloc RowL.lt RowL.cell RowL.fz RowL.kept)
open Sp (hid)
open Sy
open Bm (ZI ZI.kept ZI.of MxR ZsR mxr_at mxr_kept zsr_at zsr_kept cel_at mOk)
open Ba (stg lastP pivs wideZ facS Fits)
namespace Bp
def aL (pa pb:Nat) (a1 a2 a3 a4:Option Addr) (c1 c2 c3 c4:Nat):List LE:=[⟨some ⟨pa,0,none⟩,2,[⟨0,⟨false,a1,c1,[2]⟩⟩,⟨1,⟨false,a2,c2,[1]⟩⟩]⟩,⟨some ⟨pb,0,none⟩,2,[⟨0,⟨false,a3,c3,[1]⟩⟩,⟨1,⟨false,a4,c4,[3]⟩⟩]⟩]
def aL2 (pa pb:Nat) (a1 a2 a3 a4:Option Addr) (c1 c2 c3 c4:Nat):List LE:=[⟨some ⟨pa,0,none⟩,2,[⟨0,⟨false,a1,c1,[1]⟩⟩,⟨1,⟨false,a2,c2,[2]⟩⟩]⟩,⟨some ⟨pb,0,none⟩,2,[⟨0,⟨false,a3,c3,[2]⟩⟩,⟨1,⟨false,a4,c4,[4]⟩⟩]⟩]
def aZ (a5 a6:Option Addr) (c5 c6:Nat):List ZE:=[⟨false,a5,c5,[5]⟩,⟨false,a6,c6,[10]⟩]
section
variable {pa pb:Nat} {a1 a2 a3 a4 a5 a6:Option Addr} {c1 c2 c3 c4 c5 c6:Nat}
theorem aL_ok:mOk (aL pa pb a1 a2 a3 a4 c1 c2 c3 c4) = true:=by kernel_rfl
theorem aL_fac:facS 2 (32:Int).toNat (matF (aL pa pb a1 a2 a3 a4 c1 c2 c3 c4)) = ([(0,0),(1,1)],0):=by kernel_rfl
theorem aL_last:lastP (matF (aL pa pb a1 a2 a3 a4 c1 c2 c3 c4)) [(0,0),(1,1)] = 5:=by kernel_rfl
theorem aL_det:detP (matF (aL pa pb a1 a2 a3 a4 c1 c2 c3 c4)) [(0,0),(1,1)] 2 = 5:=by kernel_rfl
theorem aL_sd0:sdW 2 32 (matF (aL pa pb a1 a2 a3 a4 c1 c2 c3 c4)) (zsF (aZ a5 a6 c5 c6)) [(0,0),(1,1)] 0 = false:=by kernel_rfl
theorem aL_sd1:sdW 2 32 (matF (aL pa pb a1 a2 a3 a4 c1 c2 c3 c4)) (zsF (aZ a5 a6 c5 c6)) [(0,0),(1,1)] 1 = false:=by kernel_rfl
theorem aL_sd2:sdW 2 32 (matF (aL pa pb a1 a2 a3 a4 c1 c2 c3 c4)) (zsF (aZ a5 a6 c5 c6)) [(0,0),(1,1)] 2 = false:=by kernel_rfl
theorem aL_sd:∀ k,k≤2→sdW 2 32 (matF (aL pa pb a1 a2 a3 a4 c1 c2 c3 c4)) (zsF (aZ a5 a6 c5 c6)) [(0,0),(1,1)] k = false:=by
 intro k hk
 match k,hk with
 | 0,_ => exact aL_sd0
 | 1,_ => exact aL_sd1
 | 2,_ => exact aL_sd2
theorem w5:wideZ 32 5 = false:=by kernel_rfl
theorem w15:wideZ 32 15 = false:=by kernel_rfl
theorem aL_bk0:bkA 2 (matF (aL pa pb a1 a2 a3 a4 c1 c2 c3 c4)) (zsF (aZ a5 a6 c5 c6)) [(0,0),(1,1)] 0 = 5:=by kernel_rfl
theorem aL_bk1:bkA 2 (matF (aL pa pb a1 a2 a3 a4 c1 c2 c3 c4)) (zsF (aZ a5 a6 c5 c6)) [(0,0),(1,1)] 1 = 15:=by kernel_rfl
theorem aL_bkw:∀ j,j < 2→wideZ 32 (bkA 2 (matF (aL pa pb a1 a2 a3 a4 c1 c2 c3 c4)) (zsF (aZ a5 a6 c5 c6)) [(0,0),(1,1)] j) = false:=by
 intro j hj
 match j,hj with
 | 0,_ => rw [aL_bk0]; exact w5
 | 1,_ => rw [aL_bk1]; exact w15
theorem aZ_ok:Bp.anyB (fun j => !zsB (aZ a5 a6 c5 c6) j) 2 = false:=by kernel_rfl
theorem aL2_ok:mOk (aL2 pa pb a1 a2 a3 a4 c1 c2 c3 c4) = true:=by kernel_rfl
theorem aL2_fac:facS 2 (32:Int).toNat (matF (aL2 pa pb a1 a2 a3 a4 c1 c2 c3 c4)) = ([(0,0)],140):=by kernel_rfl
end
set_option maxRecDepth 100000 in
set_option maxHeartbeats 16000000 in
theorem awake14_any (w:World):Calls Tryz.prog 8 #[] w fun e w' => Kept w w'∧e = .returned (.bool true):=by
 go_enter Tryz.func8,Tryz.ntmps8
 go_wp2_with fail
 refine (cell1_any 0 2 2 w rfl (by decide) (by decide)).mono ?_
 rintro e uw0 ⟨hk,ua0,uc0,rfl,hz⟩
 have uK:=hk
 have uz0:=hz
 clear hk hz
 go_wp2_with fail
 refine (cell1_any 1 1 1 uw0 rfl (by decide) (by decide)).mono ?_
 rintro e uw1 ⟨hk,ua1,uc1,rfl,hz⟩
 have uK:=uK.trans hk
 have uz0:=uz0.kept hk
 have uz1:=hz
 clear hk hz
 have r:=RowL.alloc 39 uw1 [.int .i64 0,.bool false,.slice ua0 1 uc0,.int .i64 1,.bool false,.slice ua1 1 uc1]
 have k:=(Kept.refl uw1).alloc (.cells #[.int .i64 0,.bool false,.slice ua0 1 uc0,.int .i64 1,.bool false,.slice ua1 1 uc1] 39)
 obtain ⟨upa,hp⟩:∃ p,p = uw1.heap.size:=⟨_,rfl⟩
 --%ua
 go_wp2_with fail
 rw [← hp] at r ⊢
 generalize uw1.alloc (.cells #[.int .i64 0,.bool false,.slice ua0 1 uc0,.int .i64 1,.bool false,.slice ua1 1 uc1] 39) = uva at r k ⊢
 clear hp
 have ura:=csr_row2 (c1:=⟨0,⟨false,ua0,uc0,[2]⟩⟩) (c2:=⟨1,⟨false,ua1,uc1,[1]⟩⟩) r (uz0.kept k) (uz1.kept k)
 have uK:=uK.trans k
 clear r k uz0 uz1
 refine (cell1_any 0 1 1 uva rfl (by decide) (by decide)).mono ?_
 rintro e uw2 ⟨hk,ua2,uc2,rfl,hz⟩
 have uK:=uK.trans hk
 have ura:=csr_kept ura hk
 have uz2:=hz
 clear hk hz
 go_wp2_with fail
 refine (cell1_any 1 3 3 uw2 rfl (by decide) (by decide)).mono ?_
 rintro e uw3 ⟨hk,ua3,uc3,rfl,hz⟩
 have uK:=uK.trans hk
 have uz2:=uz2.kept hk
 have ura:=csr_kept ura hk
 have uz3:=hz
 clear hk hz
 have r:=RowL.alloc 39 uw3 [.int .i64 0,.bool false,.slice ua2 1 uc2,.int .i64 1,.bool false,.slice ua3 1 uc3]
 have k:=(Kept.refl uw3).alloc (.cells #[.int .i64 0,.bool false,.slice ua2 1 uc2,.int .i64 1,.bool false,.slice ua3 1 uc3] 39)
 obtain ⟨upb,hp⟩:∃ p,p = uw3.heap.size:=⟨_,rfl⟩
 have r2:=RowL.alloc 34 (uw3.alloc (.cells #[.int .i64 0,.bool false,.slice ua2 1 uc2,.int .i64 1,.bool false,.slice ua3 1 uc3] 39)) [.slice (some ⟨upa,0,none⟩) 2 2,.slice (some ⟨upb,0,none⟩) 2 2]
 have k2:=(Kept.refl (uw3.alloc (.cells #[.int .i64 0,.bool false,.slice ua2 1 uc2,.int .i64 1,.bool false,.slice ua3 1 uc3] 39))).alloc (.cells #[.slice (some ⟨upa,0,none⟩) 2 2,.slice (some ⟨upb,0,none⟩) 2 2] 34)
 have sz:=alloc_sz uw3 (.cells #[.int .i64 0,.bool false,.slice ua2 1 uc2,.int .i64 1,.bool false,.slice ua3 1 uc3] 39)
 rw [← hp] at r
 have HZ:=hid (And.intro hp sz)
 clear hp sz
 --%ub
 go_wp2_with fail
 obtain ⟨hp,sz⟩:=HZ.out
 rw [← hp] at sz ⊢
 rw [sz] at r2
 generalize uw3.alloc (.cells #[.int .i64 0,.bool false,.slice ua2 1 uc2,.int .i64 1,.bool false,.slice ua3 1 uc3] 39) = uvb at r k r2 k2 ⊢
 generalize uvb.alloc (.cells #[.slice (some ⟨upa,0,none⟩) 2 2,.slice (some ⟨upb,0,none⟩) 2 2] 34) = uv at r2 k2 ⊢
 clear hp sz HZ
 obtain ⟨upm,hpm⟩:∃ p,p = upb + 1:=⟨_,rfl⟩
 rw [← hpm] at r2 ⊢
 clear hpm
 have urb:=csr_row2 (c1:=⟨0,⟨false,ua2,uc2,[1]⟩⟩) (c2:=⟨1,⟨false,ua3,uc3,[3]⟩⟩) r (uz2.kept k) (uz3.kept k)
 have uM:=mxr_row2 (l1:=⟨some ⟨upa,0,none⟩,2,[⟨0,⟨false,ua0,uc0,[2]⟩⟩,⟨1,⟨false,ua1,uc1,[1]⟩⟩]⟩) (l2:=⟨some ⟨upb,0,none⟩,2,[⟨0,⟨false,ua2,uc2,[1]⟩⟩,⟨1,⟨false,ua3,uc3,[3]⟩⟩]⟩) r2 (csr_kept (csr_kept ura k) k2) (csr_kept urb k2)
 have uK:=(uK.trans k).trans k2
 clear r k r2 k2 uz2 uz3 ura urb
 --%A
 refine (new_any (some ⟨upm,0,none⟩) 2 2 32 (aL upa upb ua0 ua1 ua2 ua3 uc0 uc1 uc2 uc3) uv uM rfl (by intro l hl; simp only [aL,List.mem_cons,List.mem_nil_iff,or_false] at hl; rcases hl with rfl | rfl <;> exact (by decide:2≤1000000)) (by omega) (by omega) (by omega)).mono ?_
 rintro e w5 ⟨hk,⟨h1,_⟩ | ⟨_,h1,_⟩ | ⟨_,_,ps,er,hs,hf,hx⟩⟩
 ·
  rw [aL_ok] at h1; cases h1
 ·
  omega
 rw [aL_fac] at hs
 cases hs
 rcases hx with ⟨h1,_⟩ | ⟨_,fb,sa,sk,sc,Ss,rfl,hF⟩
 ·
  exact absurd rfl h1
 have hsk:sk = 2:=hF.len
 subst hsk
 have K5:=uK.trans hk
 have HF:=hid hf
 have HR:=hid hF
 clear hk hF hf uM uK
 --%B
 go_wp2_with fail
 refine (of1_any 5 5 w5 rfl (by decide) (by decide)).mono ?_
 rintro e w6 ⟨hk,a5,c5,rfl,hz5⟩
 have HR:=hid (HR.out.kept hk)
 have K6:=K5.trans hk
 clear hk K5
 go_wp2_with fail
 refine (of1_any 10 10 w6 rfl (by decide) (by decide)).mono ?_
 rintro e w7 ⟨hk,a6,c6,rfl,hz6⟩
 have HR:=hid (HR.out.kept hk)
 have hz5:=hz5.kept hk
 have K7:=K6.trans hk
 have r:=RowL.alloc 37 w7 [.bool false,.slice a5 1 c5,.bool false,.slice a6 1 c6]
 have k:=(Kept.refl w7).alloc (.cells #[.bool false,.slice a5 1 c5,.bool false,.slice a6 1 c6] 37)
 obtain ⟨pz,hp⟩:∃ p,p = w7.heap.size:=⟨_,rfl⟩
 rw [← hp] at r
 have HPz:=hid hp
 clear hk K6 hp
 --%C
 go_wp2_with fail
 rw [← HPz.out]
 generalize w7.alloc (.cells #[.bool false,.slice a5 1 c5,.bool false,.slice a6 1 c6] 37) = w8 at r k ⊢
 have hZ:=zsr_row2 (z1:=⟨false,a5,c5,[5]⟩) (z2:=⟨false,a6,c6,[10]⟩) r (hz5.kept k) (hz6.kept k)
 have HR:=hid (HR.out.kept k)
 have K8:=K7.trans k
 clear r k hz5 hz6 K7 HPz
 refine (solve_full uv.heap.size fb 2 2 (32:Int).toNat sa sc Ss (matF (aL upa upb ua0 ua1 ua2 ua3 uc0 uc1 uc2 uc3)) (zsB (aZ a5 a6 c5 c6)) (zsF (aZ a5 a6 c5 c6)) [(0,0),(1,1)] (some ⟨pz,0,none⟩) 2 w8 HR.out HF.out rfl aL_fac (by decide) (by omega) (by omega) (zsr_q hZ 2 2 rfl) (zsr_il hZ 2 2 rfl) (fun e => by cases e)).mono ?_
 rintro e w9 ⟨hk,⟨h1,_⟩ | ⟨_,h1,_⟩ | ⟨_,_,⟨⟨k,h1,h2⟩,_⟩ | ⟨_,⟨⟨j,h1,h2⟩,_⟩ | ⟨_,xo,xc,s,o,k,c,rfl,hX,hD⟩⟩⟩⟩
 ·
  exact absurd rfl h1
 ·
  rw [aZ_ok] at h1; cases h1
 ·
  have h9:false = true:=(aL_sd k h1).symm.trans h2
  cases h9
 ·
  have h9:false = true:=(aL_bkw j h1).symm.trans h2
  cases h9
 obtain ⟨xg,s0,o0,k0,c0,rfl,hg,v0,v1,y0,_⟩:=hX.at (show 0 < 2 by decide)
 obtain ⟨xg',s1,o1,k1,c1,e,_,v2,v3,y1,_⟩:=hX.at (show 1 < 2 by decide)
 cases e
 have y0:ZI w9 s0 (.slice o0 k0 c0) 5:=by rw [show (5:Int) = (if lastP (matF (aL upa upb ua0 ua1 ua2 ua3 uc0 uc1 uc2 uc3)) [(0,0),(1,1)] < 0 then -(bkA 2 (matF (aL upa upb ua0 ua1 ua2 ua3 uc0 uc1 uc2 uc3)) (zsF (aZ a5 a6 c5 c6)) [(0,0),(1,1)] 0) else bkA 2 (matF (aL upa upb ua0 ua1 ua2 ua3 uc0 uc1 uc2 uc3)) (zsF (aZ a5 a6 c5 c6)) [(0,0),(1,1)] 0) by rw [aL_last,aL_bk0]; rfl]; exact y0.zi
 have y1:ZI w9 s1 (.slice o1 k1 c1) 15:=by rw [show (15:Int) = (if lastP (matF (aL upa upb ua0 ua1 ua2 ua3 uc0 uc1 uc2 uc3)) [(0,0),(1,1)] < 0 then -(bkA 2 (matF (aL upa upb ua0 ua1 ua2 ua3 uc0 uc1 uc2 uc3)) (zsF (aZ a5 a6 c5 c6)) [(0,0),(1,1)] 1) else bkA 2 (matF (aL upa upb ua0 ua1 ua2 ua3 uc0 uc1 uc2 uc3)) (zsF (aZ a5 a6 c5 c6)) [(0,0),(1,1)] 1) by rw [aL_last,aL_bk1]; rfl]; exact y1.zi
 have yd:ZI w9 s (.slice o k c) 5:=by rw [show (5:Int) = (if lastP (matF (aL upa upb ua0 ua1 ua2 ua3 uc0 uc1 uc2 uc3)) [(0,0),(1,1)] < 0 then -(lastP (matF (aL upa upb ua0 ua1 ua2 ua3 uc0 uc1 uc2 uc3)) [(0,0),(1,1)]) else lastP (matF (aL upa upb ua0 ua1 ua2 ua3 uc0 uc1 uc2 uc3)) [(0,0),(1,1)]) by rw [aL_last]; rfl]; exact hD.zi
 have HR:=hid (HR.out.kept hk)
 have K9:=K8.trans hk
 have HY:=hid (And.intro y0 (And.intro y1 (And.intro yd (And.intro hg.2 (And.intro v0 (And.intro v1 (And.intro v2 v3)))))))
 clear hk hX hD y0 y1 yd hg v0 v1 v2 v3 hZ K8
 have rS:=RowL.alloc 54 w9 [.slice (some ⟨xg,0,none⟩) 2 xc,.bool s,.slice o k c]
 have kS:=(Kept.refl w9).alloc (.cells #[.slice (some ⟨xg,0,none⟩) 2 xc,.bool s,.slice o k c] 54)
 --%D
 go_upto_region 5 with fail
 obtain ⟨p4,hp4⟩:∃ p,p = w9.heap.size:=⟨_,rfl⟩
 rw [← hp4] at rS ⊢
 generalize w9.alloc (.cells #[.slice (some ⟨xg,0,none⟩) 2 xc,.bool s,.slice o k c] 54) = w10 at rS kS ⊢
 clear hp4
 have HT:=hid (fun (V:World) (K:Kept w10 V) => And.intro (rS.kept K) (And.intro (kS.trans K) (And.intro (K9.trans (kS.trans K)) (HR.out.kept (kS.trans K)))))
 clear rS kS K9 HR
 --%E
 go_wp2_with fail
 refine (cell1_any 0 1 1 w10 rfl (by decide) (by decide)).mono ?_
 rintro e tw0 ⟨hk,ta0,tc0,rfl,hz⟩
 have tK:=hk
 have tz0:=hz
 clear hk hz
 go_wp2_with fail
 refine (cell1_any 1 2 2 tw0 rfl (by decide) (by decide)).mono ?_
 rintro e tw1 ⟨hk,ta1,tc1,rfl,hz⟩
 have tK:=tK.trans hk
 have tz0:=tz0.kept hk
 have tz1:=hz
 clear hk hz
 have r:=RowL.alloc 39 tw1 [.int .i64 0,.bool false,.slice ta0 1 tc0,.int .i64 1,.bool false,.slice ta1 1 tc1]
 have k:=(Kept.refl tw1).alloc (.cells #[.int .i64 0,.bool false,.slice ta0 1 tc0,.int .i64 1,.bool false,.slice ta1 1 tc1] 39)
 obtain ⟨tpa,hp⟩:∃ p,p = tw1.heap.size:=⟨_,rfl⟩
 --%ta
 go_wp2_with fail
 rw [← hp] at r ⊢
 generalize tw1.alloc (.cells #[.int .i64 0,.bool false,.slice ta0 1 tc0,.int .i64 1,.bool false,.slice ta1 1 tc1] 39) = tva at r k ⊢
 clear hp
 have tra:=csr_row2 (c1:=⟨0,⟨false,ta0,tc0,[1]⟩⟩) (c2:=⟨1,⟨false,ta1,tc1,[2]⟩⟩) r (tz0.kept k) (tz1.kept k)
 have tK:=tK.trans k
 clear r k tz0 tz1
 refine (cell1_any 0 2 2 tva rfl (by decide) (by decide)).mono ?_
 rintro e tw2 ⟨hk,ta2,tc2,rfl,hz⟩
 have tK:=tK.trans hk
 have tra:=csr_kept tra hk
 have tz2:=hz
 clear hk hz
 go_wp2_with fail
 refine (cell1_any 1 4 4 tw2 rfl (by decide) (by decide)).mono ?_
 rintro e tw3 ⟨hk,ta3,tc3,rfl,hz⟩
 have tK:=tK.trans hk
 have tz2:=tz2.kept hk
 have tra:=csr_kept tra hk
 have tz3:=hz
 clear hk hz
 have r:=RowL.alloc 39 tw3 [.int .i64 0,.bool false,.slice ta2 1 tc2,.int .i64 1,.bool false,.slice ta3 1 tc3]
 have k:=(Kept.refl tw3).alloc (.cells #[.int .i64 0,.bool false,.slice ta2 1 tc2,.int .i64 1,.bool false,.slice ta3 1 tc3] 39)
 obtain ⟨tpb,hp⟩:∃ p,p = tw3.heap.size:=⟨_,rfl⟩
 have r2:=RowL.alloc 34 (tw3.alloc (.cells #[.int .i64 0,.bool false,.slice ta2 1 tc2,.int .i64 1,.bool false,.slice ta3 1 tc3] 39)) [.slice (some ⟨tpa,0,none⟩) 2 2,.slice (some ⟨tpb,0,none⟩) 2 2]
 have k2:=(Kept.refl (tw3.alloc (.cells #[.int .i64 0,.bool false,.slice ta2 1 tc2,.int .i64 1,.bool false,.slice ta3 1 tc3] 39))).alloc (.cells #[.slice (some ⟨tpa,0,none⟩) 2 2,.slice (some ⟨tpb,0,none⟩) 2 2] 34)
 have sz:=alloc_sz tw3 (.cells #[.int .i64 0,.bool false,.slice ta2 1 tc2,.int .i64 1,.bool false,.slice ta3 1 tc3] 39)
 rw [← hp] at r
 have HZ:=hid (And.intro hp sz)
 clear hp sz
 --%tb
 go_wp2_with fail
 obtain ⟨hp,sz⟩:=HZ.out
 rw [← hp] at sz ⊢
 rw [sz] at r2
 generalize tw3.alloc (.cells #[.int .i64 0,.bool false,.slice ta2 1 tc2,.int .i64 1,.bool false,.slice ta3 1 tc3] 39) = tvb at r k r2 k2 ⊢
 generalize tvb.alloc (.cells #[.slice (some ⟨tpa,0,none⟩) 2 2,.slice (some ⟨tpb,0,none⟩) 2 2] 34) = tv at r2 k2 ⊢
 clear hp sz HZ
 obtain ⟨tpm,hpm⟩:∃ p,p = tpb + 1:=⟨_,rfl⟩
 rw [← hpm] at r2 ⊢
 clear hpm
 have trb:=csr_row2 (c1:=⟨0,⟨false,ta2,tc2,[2]⟩⟩) (c2:=⟨1,⟨false,ta3,tc3,[4]⟩⟩) r (tz2.kept k) (tz3.kept k)
 have tM:=mxr_row2 (l1:=⟨some ⟨tpa,0,none⟩,2,[⟨0,⟨false,ta0,tc0,[1]⟩⟩,⟨1,⟨false,ta1,tc1,[2]⟩⟩]⟩) (l2:=⟨some ⟨tpb,0,none⟩,2,[⟨0,⟨false,ta2,tc2,[2]⟩⟩,⟨1,⟨false,ta3,tc3,[4]⟩⟩]⟩) r2 (csr_kept (csr_kept tra k) k2) (csr_kept trb k2)
 have tK:=(tK.trans k).trans k2
 clear r k r2 k2 tz2 tz3 tra trb
 --%F
 refine (new_any (some ⟨tpm,0,none⟩) 2 2 32 (aL2 tpa tpb ta0 ta1 ta2 ta3 tc0 tc1 tc2 tc3) tv tM rfl (by intro l hl; simp only [aL2,List.mem_cons,List.mem_nil_iff,or_false] at hl; rcases hl with rfl | rfl <;> exact (by decide:2≤1000000)) (by omega) (by omega) (by omega)).mono ?_
 rintro e w11 ⟨hk,⟨h1,_⟩ | ⟨_,h1,_⟩ | ⟨_,_,ps,er,hs,_,hx⟩⟩
 ·
  rw [aL2_ok] at h1; cases h1
 ·
  omega
 rw [aL2_fac] at hs
 cases hs
 rcases hx with ⟨_,rfl⟩ | ⟨h1,_⟩
 rotate_left
 ·
  exact absurd h1 (by decide)
 have HK:=hid (tK.trans hk)
 clear hk tM tK
 --%G
 go_upto_region 6 with fail
 have KT:Kept w10 w11.drew:=HK.out.drew
 have sS:=hid (fun (V:World) (K:Kept w10 V) => show (fun w':World => w'.cell? ⟨p4,0,none⟩ = some (.slice (some ⟨xg,0,none⟩) 2 xc)∧w'.cell? ⟨p4,1,none⟩ = some (.bool s)∧w'.cell? ⟨p4,2,none⟩ = some (.slice o k c)∧w'.cell? ⟨xg,0,none⟩ = some (.bool s0)∧w'.cell? ⟨xg,1,none⟩ = some (.slice o0 k0 c0)∧w'.cell? ⟨xg,2,none⟩ = some (.bool s1)∧w'.cell? ⟨xg,3,none⟩ = some (.slice o1 k1 c1)) V from ⟨(HT.out V K).1.cell 0 _ rfl,(HT.out V K).1.cell 1 _ rfl,(HT.out V K).1.cell 2 _ rfl,((HT.out V K).2.1.cell (p:=⟨xg,0,none⟩) HY.out.2.2.2.1).trans HY.out.2.2.2.2.1,((HT.out V K).2.1.cell (p:=⟨xg,1,none⟩) HY.out.2.2.2.1).trans HY.out.2.2.2.2.2.1,((HT.out V K).2.1.cell (p:=⟨xg,2,none⟩) HY.out.2.2.2.1).trans HY.out.2.2.2.2.2.2.1,((HT.out V K).2.1.cell (p:=⟨xg,3,none⟩) HY.out.2.2.2.1).trans HY.out.2.2.2.2.2.2.2⟩)
 refine wp_region_held_drew (S:=fun w' => w'.cell? ⟨p4,0,none⟩ = some (.slice (some ⟨xg,0,none⟩) 2 xc)∧w'.cell? ⟨p4,1,none⟩ = some (.bool s)∧w'.cell? ⟨p4,2,none⟩ = some (.slice o k c)∧w'.cell? ⟨xg,0,none⟩ = some (.bool s0)∧w'.cell? ⟨xg,1,none⟩ = some (.slice o0 k0 c0)∧w'.cell? ⟨xg,2,none⟩ = some (.bool s1)∧w'.cell? ⟨xg,3,none⟩ = some (.slice o1 k1 c1)) (by kernel_rfl) (sS.out _ KT) (fun hHeld => ?_)
 generalize w11.drew = V0 at KT hHeld ⊢
 refine tk 0 hHeld ?_
 refine tk 1 hHeld ?_
 refine tk 2 hHeld ?_
 refine tk 3 hHeld ?_
 refine tk 4 hHeld ?_
 refine tk 5 hHeld ?_
 refine tk 6 hHeld ?_
 refine tk 7 hHeld ?_
 refine tk 8 hHeld ?_
 refine tk 9 hHeld ?_
 refine tk 10 hHeld ?_
 refine tk 11 hHeld ?_
 refine tk 12 hHeld ?_
 refine rdy 13 fun K hK => ?_
 go_simp
 refine (of1_any 5 5 V0 rfl (by decide) (by decide)).mono ?_
 rintro e V1 ⟨hk,f1a,f1c,rfl,f1z⟩
 refine hK.out _ _ (sS.out _ (KT.trans hk)) (fun hHeld => ?_)
 clear hK K
 have KT:=KT.trans hk
 clear hk
 refine rdy 14 fun K hK => ?_
 go_simp
 refine (same_eq14 s0 false o0 f1a k0 c0 1 f1c _ _ V1 (HY.out.1.kept (HT.out _ KT).2.1) (ze_zi f1z (by decide) (by decide)) rfl).mono ?_
 rintro e V2 ⟨hk,rfl⟩
 refine hK.out _ _ (sS.out _ (KT.trans hk)) (fun hHeld => ?_)
 clear hK K
 have KT:=KT.trans hk
 clear hk
 refine tk 15 hHeld ?_
 refine tk 16 hHeld ?_
 refine tk 17 hHeld ?_
 refine tk 18 hHeld ?_
 refine tk 19 hHeld ?_
 refine tk 20 hHeld ?_
 refine rdy 21 fun K hK => ?_
 go_simp
 refine (of1_any 15 15 V2 rfl (by decide) (by decide)).mono ?_
 rintro e V3 ⟨hk,f2a,f2c,rfl,f2z⟩
 refine hK.out _ _ (sS.out _ (KT.trans hk)) (fun hHeld => ?_)
 clear hK K
 have KT:=KT.trans hk
 clear hk
 refine rdy 22 fun K hK => ?_
 go_simp
 refine (same_eq14 s1 false o1 f2a k1 c1 1 f2c _ _ V3 (HY.out.2.1.kept (HT.out _ KT).2.1) (ze_zi f2z (by decide) (by decide)) rfl).mono ?_
 rintro e V4 ⟨hk,rfl⟩
 refine hK.out _ _ (sS.out _ (KT.trans hk)) (fun hHeld => ?_)
 clear hK K
 have KT:=KT.trans hk
 clear hk
 refine tk 23 hHeld ?_
 refine tk 24 hHeld ?_
 refine tk 25 hHeld ?_
 refine tk 26 hHeld ?_
 refine rdy 27 fun K hK => ?_
 go_simp
 refine (of1_any 5 5 V4 rfl (by decide) (by decide)).mono ?_
 rintro e V5 ⟨hk,f3a,f3c,rfl,f3z⟩
 refine hK.out _ _ (sS.out _ (KT.trans hk)) (fun hHeld => ?_)
 clear hK K
 have KT:=KT.trans hk
 clear hk
 refine rdy 28 fun K hK => ?_
 go_simp
 refine (same_eq14 s false o f3a k c 1 f3c _ _ V5 (HY.out.2.2.1.kept (HT.out _ KT).2.1) (ze_zi f3z (by decide) (by decide)) rfl).mono ?_
 rintro e V6 ⟨hk,rfl⟩
 refine hK.out _ _ (sS.out _ (KT.trans hk)) (fun hHeld => ?_)
 clear hK K
 have KT:=KT.trans hk
 clear hk
 refine tk 29 hHeld ?_
 refine tk 30 hHeld ?_
 refine tk 31 hHeld ?_
 refine rdy 32 fun K hK => ?_
 go_simp
 refine (det_any uv.heap.size fb 2 (32:Int).toNat sa 2 sc Ss (matF (aL upa upb ua0 ua1 ua2 ua3 uc0 uc1 uc2 uc3)) [(0,0),(1,1)] V6 (HT.out _ KT).2.2.2 (Ba.last_ne HF.out.piv) (by omega)).mono ?_
 rintro e V7 ⟨hk,sd,od,kd,cd,rfl,hd⟩
 refine hK.out _ _ (sS.out _ (KT.trans hk)) (fun hHeld => ?_)
 clear hK K
 have KT:=KT.trans hk
 have hd:=hd.zi
 clear hk
 refine rdy 33 fun K hK => ?_
 go_simp
 refine (of1_any 5 5 V7 rfl (by decide) (by decide)).mono ?_
 rintro e V8 ⟨hk,f4a,f4c,rfl,f4z⟩
 refine hK.out _ _ (sS.out _ (KT.trans hk)) (fun hHeld => ?_)
 clear hK K
 have KT:=KT.trans hk
 have hd:=hd.kept hk
 clear hk
 refine rdy 34 fun K hK => ?_
 go_simp
 refine (same_eq14 sd false od f4a kd cd 1 f4c _ _ V8 (by have h9:=hd; rw [aL_det] at h9; exact h9) (ze_zi f4z (by decide) (by decide)) rfl).mono ?_
 rintro e V9 ⟨hk,rfl⟩
 refine hK.out _ _ (sS.out _ (KT.trans hk)) (fun hHeld => ?_)
 clear hK K
 have KT:=KT.trans hk
 clear hk
 refine tk 35 hHeld ?_
 refine tk 36 hHeld ?_
 refine tk 37 hHeld ?_
 refine tk 38 hHeld ?_
 refine tk 39 hHeld ?_
 refine tk 40 hHeld ?_
 refine tk 41 hHeld ?_
 refine tk 42 hHeld ?_
 refine tk 43 hHeld ?_
 refine tk 44 hHeld ?_
 refine tk 45 hHeld ?_
 refine tk 46 hHeld ?_
 refine tk 47 hHeld ?_
 refine tk 48 hHeld ?_
 refine _root_.Go.Proofs.YtdcfammglpebaaaGreat.dn ?_
 --%H
 go_wp2_with fail
 go_ret
 exact ⟨(HT.out _ KT).2.2.1,rfl⟩
end Bp
end Go.Proofs.YtdcfammglpebaaaGreat

namespace Go.Proofs.YtdcfammglpebaaaGreat
open Go.RowKit
open V (RowL RowL.alloc RowL.lt RowL.cell RowL.fz RowL.kept RowL.set RowL.far)
open Sp (hid vrow vrow_at vrow_len vrow_set vrow_congr ISl made_row make_ints info_parts)
open Sy
open Bm (ZI ZI.kept ZI.of MxR ZsR mxr_at mxr_kept zsr_at zsr_kept cel_at mOk)
open Ba (stg lastP pivs wideZ facS Fits)
namespace Bp
theorem info_cells:(Tryz.prog.info? 34).map (fun i => (i.zero,i.size,i.bytes)) = some (some (.slice none 0 0),1,24):=by kernel_rfl
theorem und_mat:Tryz.prog.underlying 22 = some (.slice 34):=by kernel_rfl
theorem make_mat {n:Nat} (hn:n≤1000000) (u:World):(Instr.makeSlice 22 (.int .i64 (n:Int)) (.int .i64 (n:Int))).run Tryz.prog u = .ok (.slice (some ⟨u.heap.size,0,none⟩) n n) (u.alloc (.cells (vrow n fun _ => .slice none 0 0).toArray 34)):=by
 obtain ⟨i0,hi,hz0,hz1,hz2⟩:=info_parts info_cells
 have h:=run_make (P:=Tryz.prog) u 22 34 i0 (.slice none 0 0) und_mat hi hz0 .i64 .i64 (n:Int) (n:Int) (by omega) (Int.le_refl _) (by rw [hz2]; omega) (by omega)
 rw [Int.toNat_natCast,hz1,made_row _ rfl] at h
 exact h
structure CV where
 p:Nat
 s:Bool
 ao:Option Addr
 k:Nat
 c:Nat
structure UnS (w0 wr:World) (g gw n i:Nat) (limbs:Nat) (Bs:List ZE) (rv:Nat→CV):Prop where
 kept:Kept w0 wr
 rows:RowL 34 wr g (vrow n fun j => if j < i then .slice (some ⟨(rv j).p,0,none⟩) 1 1 else .slice none 0 0)
 want:RowL 3 wr gw (vrow n fun j => if j < i then .int .i64 (j:Int) else .int .i64 0)
 row:∀ j,j < i→RowL 39 wr (rv j).p [.int .i64 (j:Int),.bool (rv j).s,.slice (rv j).ao (rv j).k (rv j).c]∧ZN 0 wr (rv j).s (.slice (rv j).ao (rv j).k (rv j).c) 1
 ok:∀ j,j < i→zsB Bs j = true∧wideZ limbs (zsF Bs j) = false
 lies:w0.heap.size≤g∧w0.heap.size≤gw
section
variable {w0 wr w':World} {g gw n i limbs:Nat} {Bs:List ZE} {rv:Nat→CV}
theorem UnS.later (h:UnS w0 wr g gw n i limbs Bs rv) (k:Kept wr w'):UnS w0 w' g gw n i limbs Bs rv :=
 ⟨h.kept.trans k,h.rows.kept k,h.want.kept k,fun j hj => ⟨(h.row j hj).1.kept k,(h.row j hj).2.kept k⟩,h.ok,h.lies⟩
theorem UnS.put (h:UnS w0 wr g gw n i limbs Bs rv) (v:CV) (hr:RowL 39 wr v.p [.int .i64 (i:Int),.bool v.s,.slice v.ao v.k v.c]) (hz:ZN 0 wr v.s (.slice v.ao v.k v.c) 1) (ho:zsB Bs i = true∧wideZ limbs (zsF Bs i) = false) :
  UnS w0 ((wr.setCell ⟨g,i,none⟩ (.slice (some ⟨v.p,0,none⟩) 1 1)).setCell ⟨gw,i,none⟩ (.int .i64 (i:Int))) g gw n (i + 1) limbs Bs (fun j => if j = i then v else rv j):=by
 have f1:=fun t (ht:34 ≠ t) => rowl_free h.rows ht
 have k1:KX (fun k => k = g) wr (wr.setCell ⟨g,i,none⟩ (.slice (some ⟨v.p,0,none⟩) 1 1)):=(KX.refl wr).setCell (T:=fun k => k = g) (p:=⟨g,i,none⟩) (.inl rfl) _
 have r1:=RowL_kx h.want k1 (f1 _ (by decide))
 have f2:=fun t (ht:3 ≠ t) => rowl_free r1 ht
 have k2:KX (fun k => k = gw) (wr.setCell ⟨g,i,none⟩ (.slice (some ⟨v.p,0,none⟩) 1 1)) ((wr.setCell ⟨g,i,none⟩ (.slice (some ⟨v.p,0,none⟩) 1 1)).setCell ⟨gw,i,none⟩ (.int .i64 (i:Int))):=(KX.refl _).setCell (T:=fun k => k = gw) (p:=⟨gw,i,none⟩) (.inl rfl) _
 have hl:=h.lies
 have hrow:∀ (t:TypeId) (p:Nat) (xs:List Value),34 ≠ t→3 ≠ t→RowL t wr p xs→RowL t ((wr.setCell ⟨g,i,none⟩ (.slice (some ⟨v.p,0,none⟩) 1 1)).setCell ⟨gw,i,none⟩ (.int .i64 (i:Int))) p xs:=fun t p xs h1 h2 r => RowL_kx (RowL_kx r k1 (f1 _ h1)) k2 (f2 _ h2)
 have hzn:∀ (s:Bool) (u:Value) (z:Int),ZN 0 wr s u z→ZN 0 ((wr.setCell ⟨g,i,none⟩ (.slice (some ⟨v.p,0,none⟩) 1 1)).setCell ⟨gw,i,none⟩ (.int .i64 (i:Int))) s u z:=fun s u z hz => (hz.kx k1 (f1 _ (by decide))).kx k2 (f2 _ (by decide))
 refine ⟨KX.kept (KX.kept h.kept k1 (fun k hk => by omega)) k2 (fun k hk => by omega),?_,?_,fun j hj => ?_,fun j hj => ?_,hl⟩
 ·
  have r:=RowL_kx (RowL.set h.rows i (.slice (some ⟨v.p,0,none⟩) 1 1)) k2 (f2 _ (by decide))
  rw [vrow_set] at r
  have e:(vrow n fun j => if j = i then Value.slice (some ⟨v.p,0,none⟩) 1 1 else if j < i then .slice (some ⟨(rv j).p,0,none⟩) 1 1 else .slice none 0 0) = vrow n fun j => if j < i + 1 then .slice (some ⟨(if j = i then v else rv j).p,0,none⟩) 1 1 else .slice none 0 0:=vrow_congr fun j _ => by
   by_cases e:j = i
   ·
    subst e
    rw [if_pos rfl,if_pos (by omega),if_pos rfl]
   ·
    rw [if_neg e,if_neg e]
    by_cases h1:j < i
    ·
     rw [if_pos h1,if_pos (by omega)]
    ·
     rw [if_neg h1,if_neg (by omega)]
  rw [e] at r
  exact r
 ·
  have r:=RowL.set r1 i (.int .i64 (i:Int))
  rw [vrow_set] at r
  have e:(vrow n fun j => if j = i then Value.int .i64 (i:Int) else if j < i then .int .i64 (j:Int) else .int .i64 0) = vrow n fun j => if j < i + 1 then .int .i64 (j:Int) else .int .i64 0:=vrow_congr fun j _ => by
   by_cases e:j = i
   ·
    subst e
    rw [if_pos rfl,if_pos (by omega)]
   ·
    rw [if_neg e]
    by_cases h1:j < i
    ·
     rw [if_pos h1,if_pos (by omega)]
    ·
     rw [if_neg h1,if_neg (by omega)]
  rw [e] at r
  exact r
 ·
  by_cases e:j = i
  ·
   subst e
   simp only [if_pos]
   exact ⟨hrow _ _ _ (by decide) (by decide) hr,hzn _ _ _ hz⟩
  ·
   simp only [if_neg e]
   have:=h.row j (by omega)
   exact ⟨hrow _ _ _ (by decide) (by decide) this.1,hzn _ _ _ this.2⟩
 ·
  by_cases e:j = i
  ·
   subst e; exact ho
  ·
   exact h.ok j (by omega)
end
def unL (n:Nat) (rv:Nat→CV):List LE:=(List.range n).map fun (j:Nat) => (⟨some ⟨(rv j).p,0,none⟩,1,[⟨(j:Int),⟨false,(rv j).ao,(rv j).c,[1]⟩⟩]⟩:LE)
end Bp
end Go.Proofs.YtdcfammglpebaaaGreat

namespace Go.Proofs.YtdcfammglpebaaaGreat
open Go.RowKit
open V (RowL RowL.alloc RowL.lt RowL.cell RowL.fz RowL.kept RowL.block RowL.set RowL.far)
open Sp (hid vrow vrow_at vrow_set own_kept own_keptK own_row own_shape own_cell info_parts only_refl)
open Sy
open Bm (MxR mOk)
open Ba (facS Fits)
namespace Bp
theorem info_cell:(Tryz.prog.info? 39).map (fun i => (i.zero,i.size,i.bytes)) = some (some (.agg #[.int .i64 0,.bool false,.slice none 0 0]),3,40):=by kernel_rfl
theorem und_cells:Tryz.prog.underlying 34 = some (.slice 39):=by kernel_rfl
structure GrC (B:Nat) (w:World) (g n:Nat) (hs:Nat→Value) (L:Nat→List CE):Prop where
 base:B≤g
 row:RowL 34 w g (vrow n hs)
 own:∀ j,j < n→w.ownsRow B 39 3 (hs j) (L j).length ((L j).flatMap CE.cells)
 apart:∀ j k,j < n→k < n→j ≠ k→∀ b,(hs j).ownBlock = some b→(hs k).ownBlock ≠ some b
theorem GrC.kept {B:Nat} {w w':World} {g n:Nat} {hs:Nat→Value} {L:Nat→List CE} (h:GrC B w g n hs L) (k:Kept w w'):GrC B w' g n hs L :=
 ⟨h.base,h.row.kept k,fun j hj => own_keptK (h.own j hj) k,h.apart⟩
theorem GrC.congr {B:Nat} {w:World} {g n:Nat} {hs:Nat→Value} {L L':Nat→List CE} (h:GrC B w g n hs L) (e:∀ j,j < n→L j = L' j):GrC B w g n hs L' :=
 ⟨h.base,h.row,fun j hj => by rw [← e j hj]; exact h.own j hj,h.apart⟩
theorem GrC.new {n:Nat} (w:World) {B:Nat} (hB:B≤w.heap.size):GrC B (w.alloc (.cells (vrow n fun _ => .slice none 0 0).toArray 34)) w.heap.size n (fun _ => .slice none 0 0) (fun _ => []) :=
 ⟨hB,RowL.alloc 34 w _,fun _ _ => World.ownsRow_nil _ _ _ _,fun _ _ _ _ _ _ hb => by cases hb⟩
theorem own_snoc {B:Nat} {w:World} {v:Value} {l:List CE} {x:CE} (h:w.ownsRow B 39 3 v (l.length + 1) (l.flatMap CE.cells ++ x.cells)):w.ownsRow B 39 3 v (l ++ [x]).length ((l ++ [x]).flatMap CE.cells):=by
 rw [List.length_append,List.flatMap_append,List.flatMap_cons,List.flatMap_nil,List.append_nil]
 exact h
theorem GrC.push {B:Nat} {w W w5:World} {g n c:Nat} {hs:Nat→Value} {L:Nat→List CE} {x:CE} {G cap:Nat} (h:GrC B w g n hs L) (hc:c < n) (kA:Kept w W)
  (hO:w5.ownsRow B 39 3 (.slice (some ⟨G,0,none⟩) ((L c).length + 1) cap) ((L c).length + 1) ((L c).flatMap CE.cells ++ x.cells)) (hgr:W.grownBy w5 (hs c).ownBlock) (hG:(hs c).ownBlock = some G ∨ G = W.heap.size) :
  GrC B (w5.setCell ⟨g,c,none⟩ (.slice (some ⟨G,0,none⟩) ((L c).length + 1) cap)) g n (fun j => if j = c then .slice (some ⟨G,0,none⟩) ((L c).length + 1) cap else hs j) (fun j => if j = c then L c ++ [x] else L j):=by
 have hW:=h.kept kA
 have hne:(hs c).ownBlock ≠ some g:=own_row (hW.own c hc) hW.row (by decide)
 have r5:RowL 34 w5 g (vrow n hs):=hW.row.block (hgr.block g hW.row.lt (fun e => hne e.symm))
 have o5:∀ j,j < n→j ≠ c→w5.ownsRow B 39 3 (hs j) (L j).length ((L j).flatMap CE.cells):=fun j hj e => own_kept (hW.own j hj) (fun b hb => hgr.block b (World.ownsRow.lt (hW.own j hj) b hb).2 (fun e' => hW.apart j c hj hc e b hb e'.symm))
 have hset:∀ {v:Value} {l:List CE} (V:Value),w5.ownsRow B 39 3 v l.length (l.flatMap CE.cells)→(w5.setCell ⟨g,c,none⟩ V).ownsRow B 39 3 v l.length (l.flatMap CE.cells):=fun {v l} V ho => own_kept ho (fun b hb => ((only_refl g w5).set c V).block b (fun e => own_row ho r5 (by decide) (by rw [← e]; exact hb)))
 refine ⟨h.base,?_,fun j hj => ?_,fun j k hj hk hjk b hb => ?_⟩
 ·
  have:=r5.set c (.slice (some ⟨G,0,none⟩) ((L c).length + 1) cap)
  rw [vrow_set] at this
  exact this
 ·
  by_cases e:j = c
  ·
   rw [if_pos e,if_pos e]
   exact hset _ (own_snoc hO)
  ·
   rw [if_neg e,if_neg e]
   exact hset _ (o5 j hj e)
 ·
  have key:∀ i,i < n→i ≠ c→(hs i).ownBlock ≠ some G:=by
   intro i hi e he
   rcases hG with hG | hG
   ·
    exact hW.apart i c hi hc e G he hG
   ·
    have:=(World.ownsRow.lt (hW.own i hi) G he).2
    omega
  by_cases e:j = c
  ·
   rw [if_pos e] at hb
   rw [if_neg (fun e' => hjk (by rw [e,e']))]
   have hb:G = b:=by simpa [Value.ownBlock] using hb
   rw [← hb]
   exact key k hk (fun e' => hjk (by rw [e,e']))
  ·
   rw [if_neg e] at hb
   by_cases e':k = c
   ·
    rw [if_pos e']
    intro h2
    have h2:G = b:=by simpa [Value.ownBlock] using h2
    exact key j hj e (by rw [h2]; exact hb)
   ·
    rw [if_neg e']
    exact hW.apart j k hj hk hjk b hb
def avOf:Value→Option Addr × Nat
 | .slice a _ c => (a,c)
 | _ => (none,0)
theorem own_av {w:World} {B:Nat} {e:TypeId} {sz n:Nat} {v:Value} {xs:List Value} (h:w.ownsRow B e sz v n xs):v = .slice (avOf v).1 n (avOf v).2:=by
 obtain ⟨a,c,rfl⟩:=own_shape h
 rfl
theorem flat3_at:∀ {L:List CE} {a q:Nat} {u:Value} (ha:a < L.length),(CE.cells L[a])[q]? = some u→(L.flatMap CE.cells)[a * 3 + q]? = some u
 | c :: t,0,q,u,_,h => by
  have hq:q < (CE.cells c).length:=(List.getElem?_eq_some_iff.1 h).1
  rw [List.flatMap_cons,List.getElem?_append_left (by rw [Nat.zero_mul,Nat.zero_add]; exact hq),Nat.zero_mul,Nat.zero_add]
  exact h
 | c :: t,a + 1,q,u,ha,h => by
  have h3:(CE.cells c).length = 3:=rfl
  rw [List.flatMap_cons,List.getElem?_append_right (by rw [h3]; omega),h3,show (a + 1) * 3 + q - 3 = a * 3 + q by omega]
  exact flat3_at (L:=t) (a:=a) (by simpa using ha) h
theorem own_cs {B:Nat} {w:World} {v:Value} {L:List CE} (h:w.ownsRow B 39 3 v L.length (L.flatMap CE.cells)) (hok:∀ x ∈ L,x.ok w):CsR w (avOf v).1 L:=fun h0 => by
 obtain ⟨g,cap,e,_,hg,_,hc,_⟩:=own_cell h h0
 refine ⟨g,0,by rw [e]; rfl,hg,fun i hi => ⟨fun q u hu => ?_,hok _ (List.getElem_mem hi)⟩⟩
 rw [Nat.zero_add]
 exact hc _ u (flat3_at hi hu)
theorem row_news {t:TypeId} {W:World} {p:Nat} {xs:List Value} (r:RowL t W p xs):∀ j u,xs[j]? = some u→W.cell? ((⟨p,0,none⟩:Addr).add j) = some u:=fun j u hu => by
 have hadd:(⟨p,0,none⟩:Addr).add j = ⟨p,j,none⟩:=by unfold Addr.add; split <;> simp_all
 rw [hadd]
 exact r.cell j u hu
theorem new_uni {L:List LE} {n:Nat} {limbs:Int} {w w':World} {e:Ending} (h:NewIs L n limbs w e w') (hok:mOk L = true) (hl:1≤limbs∧limbs≤32):Kept w w'∧∃ ps er pt,facS n limbs.toNat (matF L) = (ps,er)∧Fits n (matF L) ps∧e = .returned (.tuple #[.pointer pt,.int .i64 (ps.length:Int),.int .i64 er]) ∧
  (er = 0 ∨ er = 140 ∨ er = 13)∧(er = 0→∃ fb sa sk sc Ss,pt = some ⟨fb,0,none⟩∧FacR w.heap.size w' fb n limbs.toNat sa sk sc Ss (matF L) ps):=by
 obtain ⟨hk,⟨h1,_⟩ | ⟨_,h1,_⟩ | ⟨_,_,ps,er,hs,hf,hx⟩⟩:=h
 ·
  rw [hok] at h1; cases h1
 ·
  omega
 have h3:er = 0 ∨ er = 140 ∨ er = 13:=by
  obtain ⟨qs,e1,h1,_,h2⟩:=Ba.fac_is (n:=n) (limbs:=limbs.toNat) (M:=matF L)
  rw [hs] at h1
  cases h1
  rcases h2 with ⟨h,_⟩ | ⟨h,_⟩ | ⟨h,_⟩
  ·
   exact .inl h
  ·
   exact .inr (.inl h)
  ·
   exact .inr (.inr h)
 rcases hx with ⟨hne,rfl⟩ | ⟨rfl,fb,sa,sk,sc,Ss,rfl,hF⟩
 ·
  exact ⟨hk,ps,er,none,hs,hf,rfl,h3,fun e => absurd e hne⟩
 ·
  exact ⟨hk,ps,0,_,hs,hf,rfl,.inl rfl,fun _ => ⟨fb,sa,sk,sc,Ss,rfl,hF⟩⟩
end Bp
end Go.Proofs.YtdcfammglpebaaaGreat

namespace Go.Proofs.YtdcfammglpebaaaGreat
open Go.RowKit
open V (RowL RowL.alloc RowL.lt RowL.cell RowL.fz RowL.kept RowL.block RowL.set RowL.far)
open Sp (vrow vrow_at own_kept own_keptK own_row own_shape own_cell)
open Sy
open Bm (MxR mOk)
namespace Bp
def keyE (c:CE):Int × Bool × List Nat:=(c.col,c.val.neg,c.val.lim)
theorem rowF_keys (cs:List CE):rowF cs = (cs.map keyE).foldl (fun f k => upd f k.1.toNat (M.int k.2.1 k.2.2)) (fun _ => 0):=by
 rw [List.foldl_map]
 rfl
theorem rowF_key {cs cs':List CE} (h:cs.map keyE = cs'.map keyE):rowF cs = rowF cs':=by rw [rowF_keys,rowF_keys,h]
theorem cOk_key {n:Nat}:∀ {cs cs':List CE} {last:Int},cs.map keyE = cs'.map keyE→cOk n last cs = cOk n last cs':=by
 intro cs
 induction cs with
 | nil =>
  intro cs' last h
  cases cs' with
  | nil => rfl
  | cons c t => cases h
 | cons c t ih =>
  intro cs' last h
  cases cs' with
  | nil => cases h
  | cons c' t' =>
   rw [List.map_cons,List.map_cons] at h
   injection h with h1 h2
   obtain ⟨y,m,zo,zc,zl⟩:=c
   obtain ⟨y',m',zo',zc',zl'⟩:=c'
   unfold keyE at h1
   cases h1
   have e:=ih (cs':=t') (last:=y) h2
   show (_ && cOk n y t) = (_ && cOk n y t')
   rw [e]
   rfl
def lL (n:Nat) (hs:Nat→Value) (C:Nat→List CE):List LE:=(List.range n).map fun c => ⟨(avOf (hs c)).1,(avOf (hs c)).2,C c⟩
theorem lL_len (n:Nat) (hs:Nat→Value) (C:Nat→List CE):(lL n hs C).length = n:=by unfold lL; simp
theorem lL_at {n:Nat} {hs:Nat→Value} {C:Nat→List CE} {j:Nat} (hj:j < n):(lL n hs C).getD j l0 = ⟨(avOf (hs j)).1,(avOf (hs j)).2,C j⟩:=by
 rw [List.getD_eq_getElem?_getD]
 unfold lL
 rw [List.getElem?_map,List.getElem?_range hj]
 rfl
theorem lL_mat {n:Nat} {hs:Nat→Value} {C:Nat→List CE} {j:Nat} (hj:j < n):matF (lL n hs C) j = rowF (C j):=by
 show rowF ((lL n hs C).getD j l0).cs = _
 rw [lL_at hj]
theorem lL_ok {n:Nat} {hs:Nat→Value} {C:Nat→List CE} (hn:n≤48) (h:∀ j,j < n→cOk n (-1) (C j) = true):mOk (lL n hs C) = true:=by
 unfold mOk
 rw [lL_len,decide_eq_true hn,Bool.true_and,List.all_eq_true]
 intro l hl
 unfold lL at hl
 obtain ⟨j,hj,rfl⟩:=List.mem_map.1 hl
 exact h j (List.mem_range.1 hj)
theorem GrC.mxL {B:Nat} {w:World} {g n:Nat} {hs:Nat→Value} {C:Nat→List CE} (h:GrC B w g n hs C) (hok:∀ c,c < n→∀ x ∈ C c,x.ok w):MxR w (some ⟨g,0,none⟩) (lL n hs C):=fun _ => ⟨g,0,rfl,h.row.lt,fun j hj => by
 have hjn:j < n:=by rw [lL_len] at hj; exact hj
 have e:(lL n hs C)[j] = ⟨(avOf (hs j)).1,(avOf (hs j)).2,C j⟩:=by simp only [lL,List.getElem_map,List.getElem_range]
 rw [e]
 refine ⟨fun q u hu => ?_,own_cs (h.own j hjn) (hok j hjn)⟩
 match q,hu with
 | 0,hu =>
  cases hu
  rw [show 0 + j * 1 + 0 = j by omega]
  exact (h.row.cell j _ (vrow_at hjn)).trans (congrArg some (own_av (h.own j hjn)))⟩
theorem own_some {B:Nat} {w:World} {e:TypeId} {sz n c G k:Nat} {xs:List Value} (h:w.ownsRow B e sz (.slice (some ⟨G,0,none⟩) n c) n xs) (hk:k < n * sz):∃ x,w.cell? ⟨G,k,none⟩ = some x:=⟨_,(h.cellAt k hk).trans (List.getElem?_eq_getElem (by rw [h.1]; exact hk))⟩
end Bp
end Go.Proofs.YtdcfammglpebaaaGreat

namespace Go.Proofs.YtdcfammglpebaaaGreat
open Go.RowKit
open V (RowL RowL.alloc RowL.lt RowL.cell RowL.fz RowL.kept RowL.block RowL.set RowL.far)
open Sp (hid vrow vrow_at own_kept own_keptK own_row own_shape info_parts wpList_src own_none)
open Sy
open Bm (MxR mxr_at mxr_kept cel_at mOk)
open X (zk zr zl zd region_z anyZ_ready AllZ AllZ.cons AllZ.nil)
namespace Bp
def kC (L:List LE) (i k j:Nat):List (Int × Bool × List Nat):=if j < i then (L.getD j l0).cs.map keyE else if j = i then ((L.getD i l0).cs.take k).map keyE else []
theorem kC_row {L:List LE} {i k:Nat} (hk:(L.getD i l0).cs.length≤k) (j:Nat):kC L i k j = kC L (i + 1) 0 j:=by
 unfold kC
 by_cases h1:j < i
 ·
  rw [if_pos h1,if_pos (by omega)]
 ·
  by_cases h2:j = i
  ·
   subst h2
   rw [if_neg h1,if_pos rfl,if_pos (by omega),List.take_of_length_le hk]
  ·
   rw [if_neg h1,if_neg h2,if_neg (by omega)]
   split <;> rfl
theorem kC_step {L:List LE} {i k:Nat} (hk:k < (L.getD i l0).cs.length) (j:Nat):(if j = i then kC L i k i ++ [keyE (L.getD i l0).cs[k]] else kC L i k j) = kC L i (k + 1) j:=by
 unfold kC
 by_cases h2:j = i
 ·
  subst h2
  rw [if_pos rfl,if_neg (Nat.lt_irrefl _),if_pos rfl,if_neg (Nat.lt_irrefl _),if_pos rfl,List.take_succ_eq_append_getElem hk,List.map_append]
  rfl
 ·
  rw [if_neg h2,if_neg h2,if_neg h2]
structure CpS (w wr:World) (g n:Nat) (L:List LE) (i k:Nat) (hs:Nat→Value) (C:Nat→List CE):Prop where
 kept:Kept w wr
 grid:GrC w.heap.size wr g n hs C
 keys:∀ j,j < n→(C j).map keyE = kC L i k j
 own:∀ j,j < n→∀ x ∈ C j,New w.heap.size wr x.val.v x.val.lim
theorem CpS.later {w wr w':World} {g n i k:Nat} {L:List LE} {hs:Nat→Value} {C:Nat→List CE} (h:CpS w wr g n L i k hs C) (K:Kept wr w'):CpS w w' g n L i k hs C :=
 ⟨h.kept.trans K,h.grid.kept K,h.keys,fun j hj x hx => (h.own j hj x hx).kept K⟩
theorem CpS.push {w W w5:World} {g n i k G cap:Nat} {L:List LE} {hs:Nat→Value} {C:Nat→List CE} {x:CE} (h:CpS w W g n L i k hs C) (hi:i < n) (hk:k < (L.getD i l0).cs.length) (hx:keyE x = keyE (L.getD i l0).cs[k]) (hxn:New w.heap.size W x.val.v x.val.lim)
  (hO:w5.ownsRow w.heap.size 39 3 (.slice (some ⟨G,0,none⟩) ((C i).length + 1) cap) ((C i).length + 1) ((C i).flatMap CE.cells ++ x.cells)) (hgr:W.grownBy w5 (hs i).ownBlock) (hG:(hs i).ownBlock = some G ∨ G = W.heap.size) :
  CpS w (w5.setCell ⟨g,i,none⟩ (.slice (some ⟨G,0,none⟩) ((C i).length + 1) cap)) g n L i (k + 1) (fun j => if j = i then .slice (some ⟨G,0,none⟩) ((C i).length + 1) cap else hs j) (fun j => if j = i then C i ++ [x] else C j):=by
 have hown:=h.grid.own i hi
 have hne:(hs i).ownBlock ≠ some g:=own_row hown h.grid.row (by decide)
 have rG:RowL 34 w5 g (vrow n hs):=h.grid.row.block (hgr.block g h.grid.row.lt (fun e => hne e.symm))
 have k1:KX (fun k => some k = (hs i).ownBlock) W w5:=KX.grown hgr
 have f1:Free 40 (fun k => some k = (hs i).ownBlock) W:=fun q hq cur fr e => by
  obtain ⟨c,f,h1⟩:=Lib.ownsRow_kind hown q hq.symm
  rw [h1] at e
  injection e with e
  injection e with _ e2
  exact absurd e2 (by decide)
 have k2:KX (fun k => k = g) w5 (w5.setCell ⟨g,i,none⟩ (.slice (some ⟨G,0,none⟩) ((C i).length + 1) cap)):=(KX.refl w5).setCell (T:=fun k => k = g) (p:=⟨g,i,none⟩) (.inl rfl) _
 have f2:Free 40 (fun k => k = g) w5:=rowl_free rG (by decide)
 have hn:∀ y:CE,New w.heap.size W y.val.v y.val.lim→New w.heap.size (w5.setCell ⟨g,i,none⟩ (.slice (some ⟨G,0,none⟩) ((C i).length + 1) cap)) y.val.v y.val.lim:=fun y hy => New_kx (New_kx hy k1 f1) k2 f2
 refine ⟨KX.kept (KX.kept h.kept k1 fun q hq => (World.ownsRow.lt hown q hq.symm).1) k2 fun q hq => by rw [hq]; exact h.grid.base,h.grid.push hi (Kept.refl W) hO hgr hG,fun j hj => ?_,fun j hj y hy => ?_⟩
 ·
  rw [← kC_step hk]
  by_cases e:j = i
  ·
   subst e
   rw [if_pos rfl,if_pos rfl,List.map_append,h.keys j hj,List.map_cons,List.map_nil,hx]
  ·
   rw [if_neg e,if_neg e]
   exact h.keys j hj
 ·
  by_cases e:j = i
  ·
   subst e
   simp only [if_pos] at hy
   rcases List.mem_append.1 hy with hy | hy
   ·
    exact hn y (h.own j hj y hy)
   ·
    obtain rfl:=List.mem_singleton.1 hy
    exact hn _ hxn
  ·
   simp only [if_neg e] at hy
   exact hn y (h.own j hj y hy)
theorem sl_src {W:World} {zo:Option Addr} {zk zc:Nat} {zl:List Nat} (h:Sl W (.slice zo zk zc) zl):0 < zk→∃ ad,zo = some ad∧∀ j u,(us zl)[j]? = some u→W.cell? (ad.add j) = some u:=by
 intro h0
 obtain ⟨hb,ao,cap,e,hx⟩:=h
 cases e
 obtain ⟨_,b,off,rfl,hlt,hc⟩:=hx h0
 exact ⟨_,rfl,Sl.news hc⟩
set_option maxRecDepth 100000 in
set_option maxHeartbeats 40000000 in
theorem copied_any (ao:Option Addr) (n cap:Nat) (L:List LE) (w:World) (h:MxR w ao L) (hl:n = L.length) (hn:n≤61) (hs:∀ r ∈ L,r.cs.length≤60∧∀ c ∈ r.cs,c.val.lim.length≤600) :
  Calls Tryz.prog 10 #[.slice ao n cap] w fun e w' => ∃ g hs C,e = .returned (.slice (some ⟨g,0,none⟩) n n)∧CpS w w' g n L n 0 hs C:=by
 have HL:=hid (And.intro h (And.intro hl hs))
 clear h hl hs
 obtain ⟨i1,hj,hy0,hy1,hy2⟩:=info_parts info_cell
 obtain ⟨i2,hu,hu0,hu1,hu2⟩:=info_parts Tryz.info40
 have hm1:=hid (fun u => make_mat (n:=n) (by omega) u)
 have q1:=hm1.out w
 have k1:=(Kept.refl w).alloc (.cells (vrow n fun _ => .slice none 0 0).toArray 34)
 have r1:=GrC.new (n:=n) w (Nat.le_refl _)
 obtain ⟨g,hg⟩:∃ p,p = w.heap.size:=⟨_,rfl⟩
 rw [← hg] at q1
 have r1:GrC w.heap.size (w.alloc (.cells (vrow n fun _ => .slice none 0 0).toArray 34)) g n (fun _ => .slice none 0 0) (fun _ => []):=by rw [hg]; exact r1
 generalize w.alloc (.cells (vrow n fun _ => .slice none 0 0).toArray 34) = w1 at q1 r1 k1
 have HQ:=hid (show CpS w w1 g n L 0 0 (fun _ => .slice none 0 0) (fun _ => []) from ⟨k1,r1,fun j _ => by unfold kC; rw [if_neg (Nat.not_lt_zero _)]; split <;> rfl,fun j _ x hx => by cases hx⟩)
 clear r1 k1 hg hm1
 go_enter Tryz.func10,Tryz.ntmps10
 --%A
 go_wp2_with fail
 clear q1
 go_loopw [13] (fun v13 wr => ∃ i:Nat,i≤n∧v13 = .int .i64 (i:Int)∧Hid (∃ hs C,CpS w wr g n L i 0 hs C)) (fun v13 _ => n - (intOf v13).toNat)
 case atStart => exact ⟨0,Nat.zero_le _,rfl,_,_,HQ.out⟩
 case round =>
  clear HQ
  obtain ⟨i,hi,rfl,H⟩:=hrel
  generalize wr = w5 at H ⊢
  by_cases hit:i < n
  ·
   have hii:(i:Int) < (n:Int):=by omega
   have hi0:(0:Int)≤(i:Int):=by omega
   have hiL:i < L.length:=by have:=HL.out.2.1; omega
   obtain ⟨b,off,ra,rc,cs,rfl,hrow,hc,hcs⟩:=mxr_at HL.out.1 hiL
   have c1:=hc w5 (by obtain ⟨_,_,hh⟩:=H.out; exact hh.kept)
   have HCs:=hid hcs
   have hcE:(L.getD i l0).cs = cs:=by rw [getD_in hiL,hrow]
   have hcb:cs.length≤60∧∀ c ∈ cs,c.val.lim.length≤600:=by
    have:=HL.out.2.2 L[i] (List.getElem_mem hiL)
    rw [hrow] at this
    exact this
   obtain ⟨rl,hrl⟩:∃ r,r = cs.length:=⟨_,rfl⟩
   rw [← hrl] at c1
   have hrl60:rl≤60:=by rw [hrl]; exact hcb.1
   have HR:=hid (And.intro hrl (And.intro hcE hcb.2))
   clear hc hcs hrl hcE hrow hcb
   --%D
   go_wp2_with fail
   go_loopw [20] (fun v20 wr => ∃ (k:Nat),k≤rl∧v20 = .int .i64 (k:Int)∧Hid (∃ hs C,CpS w wr g n L i k hs C)) (fun v20 _ => rl - (intOf v20).toNat)
   case atStart => exact ⟨0,Nat.zero_le _,rfl,H.out⟩
   case round =>
    clear H c1
    obtain ⟨k,hkl,rfl,K⟩:=hrel
    generalize wr = w6 at K ⊢
    by_cases hkt:k < rl
    ·
     have hkk:(k:Int) < (rl:Int):=by omega
     have hk0:(0:Int)≤(k:Int):=by omega
     have hkL:k < cs.length:=by have:=HR.out.1; omega
     obtain ⟨b2,o2,y,m,zo,zc,zl,rfl,hce,hcb,okb⟩:=cel_at HCs.out hkL
     obtain ⟨hs,C,hCp⟩:=K.out
     have c1:=(hcb w6 hCp.kept).1
     have c2:=(hcb w6 hCp.kept).2.1
     have c3:=(hcb w6 hCp.kept).2.2
     have hzl:zl.length≤600:=by have:=HR.out.2.2 cs[k] (List.getElem_mem hkL); rw [hce] at this; exact this
     obtain ⟨zk9,hzk⟩:∃ l,l = zl.length:=⟨_,rfl⟩
     rw [← hzk] at c3 hzl
     have hsl:Sl w (.slice zo zk9 zc) zl:=by rw [hzk]; exact okb.1
     have HZk:=hid (And.intro hzk (And.intro hsl hce))
     have hsz6:w.heap.size≤w6.heap.size:=hCp.kept.size
     have HCp:=hid hCp
     have rB:=RowL.alloc 39 w6 [.int .i64 y,.bool m,.slice zo zk9 zc]
     have kB:=(Kept.refl w6).alloc (.cells #[.int .i64 y,.bool m,.slice zo zk9 zc] 39)
     clear hcb hCp K hce hzk okb hsl
     --%E
     go_upto_region 8 with fail
     have hsz7:w.heap.size≤(w6.alloc (.cells #[.int .i64 y,.bool m,.slice zo zk9 zc] 39)).heap.size:=Nat.le_trans hsz6 kB.size
     generalize w6.alloc (.cells #[.int .i64 y,.bool m,.slice zo zk9 zc] 39) = w7 at rB kB hsz7 ⊢
     obtain ⟨p7,hp7⟩:∃ p,p = w6.heap.size:=⟨_,rfl⟩
     rw [← hp7] at rB ⊢
     have H7:=hid (And.intro rB (And.intro kB hp7))
     have d2:=(rB.kept ((Kept.refl w7).alloc (.cells #[] 40))).cell 2 _ rfl
     clear rB kB hp7 c1 c2 c3
     have hsrc:=sl_src (HZk.out.2.1.kept ((HCp.out.kept.trans H7.out.2.1).alloc (.cells #[] 40)))
     have hul:(us zl).length = zk9 * 1:=by have:=HZk.out.1; simp [us]; omega
     --%F
     go_wp2_with (at_builtin; refine wpList_src rfl (.tmp 24) (.tmp 27) 35 rfl w.heap.size 40 i2 (.int .u32 0) 1 4 Tryz.underlying35 hu hu0 hu1 hu2 rfl (by decide) w7.heap.size rfl (own_none 40 1 w7 w.heap.size hsz7) zo zk9 zc (us zl) rfl hul hsrc (us_oneCell zl) (by unfold maxLen; omega) (by omega) (by rw [alloc_sz]; omega) ?_)
     intro g5 cap5 w8 hO5 hgr5
     have K78:Kept w7 w8:=X.kept_grown ((Kept.refl w7).alloc (.cells #[] 40)) hgr5 (Nat.le_refl _)
     have hnw:New w.heap.size w8 (.slice (some ⟨g5,0,none⟩) zk9 cap5) zl:=New.of_owns hO5 HZk.out.2.1.bd
     have r8:=H7.out.1.kept K78
     have H8:=hid (And.intro K78 (And.intro hnw r8))
     have d2:=r8.cell 2 _ rfl
     have f2:=r8.fz 2
     clear K78 hnw r8 hO5 hgr5 hsrc hul
     go_upto_region 9 with fail
     --%G
     have kS:KX (fun k => k = p7) w8 (w8.setCell ⟨p7,2,none⟩ (.slice (some ⟨g5,0,none⟩) zk9 cap5)):=(KX.refl w8).setCell (T:=fun k => k = p7) (p:=⟨p7,2,none⟩) (.inl rfl) _
     have hn9:=New_kx H8.out.2.1 kS (rowl_free H8.out.2.2 (by decide))
     have r9:=RowL.set H8.out.2.2 2 (.slice (some ⟨g5,0,none⟩) zk9 cap5)
     have K69:Kept w6 (w8.setCell ⟨p7,2,none⟩ (.slice (some ⟨g5,0,none⟩) zk9 cap5)):=KX.kept (H7.out.2.1.trans H8.out.1) kS (fun k hk => by rw [hk,H7.out.2.2]; exact Nat.le_refl _)
     generalize w8.setCell ⟨p7,2,none⟩ (.slice (some ⟨g5,0,none⟩) zk9 cap5) = w9 at r9 hn9 K69 kS ⊢
     have hne7:(hs i).ownBlock ≠ some p7:=fun e => by have:=(World.ownsRow.lt (HCp.out.grid.own i hit) _ e).2; have:=H7.out.2.2; omega
     obtain ⟨va,vc,hv⟩:=own_shape (HCp.out.grid.own i hit)
     obtain ⟨l,hl⟩:∃ l,l = C i:=⟨_,rfl⟩
     rw [← hl] at hv
     have hll:l.length≤60:=by
      have h1:=congrArg List.length (HCp.out.keys i hit)
      rw [List.length_map,← hl] at h1
      rw [h1]
      unfold kC
      rw [if_neg (Nat.lt_irrefl _),if_pos rfl,List.length_map,List.length_take]
      omega
     have H9:=hid (And.intro (HCp.out.later K69) (And.intro (show RowL 39 w9 p7 [.int .i64 y,.bool m,.slice (some ⟨g5,0,none⟩) zk9 cap5] from r9) (And.intro hn9 (And.intro hne7 (And.intro hv hl)))))
     clear kS hn9 r9 K69 hne7 hv d2 f2 hl H8
     have sS:=hid (fun (V:World) (rb:RowL 39 V p7 [.int .i64 y,.bool m,.slice (some ⟨g5,0,none⟩) zk9 cap5]) (rg:RowL 34 V g (vrow n hs)) => show (fun w':World => w'.cell? ⟨p7,0,none⟩ = some (.int .i64 y)∧w'.cell? ⟨p7,1,none⟩ = some (.bool m)∧w'.cell? ⟨p7,2,none⟩ = some (.slice (some ⟨g5,0,none⟩) zk9 cap5)∧w'.cell? ⟨g,i,none⟩ = some (.slice va l.length vc)) V from ⟨rb.cell 0 _ rfl,rb.cell 1 _ rfl,rb.cell 2 _ rfl,by rw [rg.cell i _ (vrow_at hit),H9.out.2.2.2.2.1]⟩)
     have KT:Kept w9 w9.drew:=(Kept.refl _).drew
     refine region_z 10 (S:=fun w' => w'.cell? ⟨p7,0,none⟩ = some (.int .i64 y)∧w'.cell? ⟨p7,1,none⟩ = some (.bool m)∧w'.cell? ⟨p7,2,none⟩ = some (.slice (some ⟨g5,0,none⟩) zk9 cap5)∧w'.cell? ⟨g,i,none⟩ = some (.slice va l.length vc)) (by kernel_rfl) (sS.out _ (H9.out.2.1.kept KT) (H9.out.1.grid.row.kept KT)) (fun hHeld => ?_)
     generalize w9.drew = Wd at KT hHeld ⊢
     refine zk 0 hHeld ?_
     refine zk 1 hHeld ?_
     refine zk 2 hHeld ?_
     refine zk 3 hHeld ?_
     refine zk 4 hHeld ?_
     refine zk 5 hHeld ?_
     refine zk 6 hHeld ?_
     --%H
     refine zr 7 fun K hK => ?_
     go_simp
     have rT:=RowL.alloc 39 Wd [.int .i64 y,.bool m,.slice (some ⟨g5,0,none⟩) zk9 cap5]
     have kA:=KT.alloc (.cells #[.int .i64 y,.bool m,.slice (some ⟨g5,0,none⟩) zk9 cap5] 39)
     refine hK.out _ _ (sS.out _ (H9.out.2.1.kept kA) (H9.out.1.grid.row.kept kA)) (fun hHeld => ?_)
     clear hK K
     obtain ⟨t,ht⟩:∃ p,p = Wd.heap.size:=⟨_,rfl⟩
     rw [← ht] at rT ⊢
     generalize Wd.alloc (.cells #[.int .i64 y,.bool m,.slice (some ⟨g5,0,none⟩) zk9 cap5] 39) = Wa at rT kA hHeld ⊢
     have HC9:=hid (H9.out.1.later kA)
     have hOx:Wa.ownsRow w.heap.size 39 3 (.slice va l.length vc) l.length (l.flatMap CE.cells):=by have:=HC9.out.grid.own i hit; rw [H9.out.2.2.2.2.1,← H9.out.2.2.2.2.2] at this; exact this
     --%I
     refine zr 8 fun K hK => ?_
     refine wp_append_lies _ (.tmp 36) (.tmp 38) 34 rfl w.heap.size 39 i1 (.agg #[.int .i64 0,.bool false,.slice none 0 0]) 3 40 und_cells hj hy0 hy1 hy2 rfl (by decide) (.slice va l.length vc) l.length (l.flatMap CE.cells) rfl hOx ⟨t,0,none⟩ 1 1 [.int .i64 y,.bool m,.slice (some ⟨g5,0,none⟩) zk9 cap5] rfl rfl (row_news rT) (by simp [Value.oneCell']) (by omega) (by unfold maxLen; omega) (by omega) HC9.out.kept.size _ rfl ?_
     intro G cap6 wb hO hgr hG _
     have hgr':Wa.grownBy wb (hs i).ownBlock:=by rw [H9.out.2.2.2.2.1]; exact hgr
     have hP:=HC9.out.push (x:=⟨y,⟨m,some ⟨g5,0,none⟩,cap5,zl⟩⟩) (G:=G) (cap:=cap6) hit (by rw [HR.out.2.1]; exact hkL) (by simp only [HR.out.2.1]; rw [HZk.out.2.2]; rfl) (by show New _ _ (.slice _ zl.length _) zl; rw [← HZk.out.1]; exact H9.out.2.2.1.kept kA) (by rw [← H9.out.2.2.2.2.2]; show wb.ownsRow w.heap.size 39 3 _ _ (_ ++ [.int .i64 y,.bool m,.slice (some ⟨g5,0,none⟩) zl.length cap5]); rw [← HZk.out.1]; exact hO) hgr' (by rw [H9.out.2.2.2.2.1]; exact hG)
     rw [← H9.out.2.2.2.2.2] at hP
     have rG:=HC9.out.grid.row.block (hgr'.block g HC9.out.grid.row.lt (fun e => own_row (HC9.out.grid.own i hit) HC9.out.grid.row (by decide) e.symm))
     have rB:RowL 39 wb p7 [.int .i64 y,.bool m,.slice (some ⟨g5,0,none⟩) zk9 cap5]:=(H9.out.2.1.kept kA).block (hgr'.block p7 (H9.out.2.1.kept kA).lt (fun e => H9.out.2.2.2.1 e.symm))
     have HP:=hid hP
     refine hK.out _ _ (sS.out _ rB rG) (fun hHeld => ?_)
     have hfz:=rG.fz i
     clear hK K hP hO hgr hgr' hG rB rG rT kA KT ht hOx
     --%J
     refine zr 9 fun K hK => ?_
     go_simp
     refine hK.out _ _ hHeld (fun hHeld => ?_)
     clear hK K
     refine X.zl fun K hK => ?_
     obtain ⟨_,_,_,hq4⟩:=hHeld
     go_simp
     refine hK.out _ _ ?_
     clear hK K
     refine zd ?_
     clear hq4 hfz
     --%K
     go_wp2_with fail
     go_roundw
     case rel => exact ⟨k + 1,by omega,by go_num,_,_,HP.out⟩
     case measure => show rl - ((k:Int) + 1).toNat < rl - (k:Int).toNat; omega
    ·
     have hkk:¬ (k:Int) < (rl:Int):=by omega
     have HE:=hid (fun c => kC_row (L:=L) (i:=i) (k:=k) (by rw [HR.out.2.1,← HR.out.1]; omega) c)
     --%L
     go_wp2_with fail
     go_roundw
     case rel => exact ⟨i + 1,by omega,by go_num,by obtain ⟨hs,C,hh⟩:=K.out; exact ⟨hs,C,hh.kept,hh.grid,fun j hj => by rw [hh.keys j hj,HE.out],hh.own⟩⟩
     case measure => show n - ((i:Int) + 1).toNat < n - (i:Int).toNat; omega
  ·
   have hii:¬ (i:Int) < (n:Int):=by omega
   obtain rfl:i = n:=by omega
   --%M
   go_wp2_with fail
   go_ret
   obtain ⟨hs,C,hh⟩:=H.out
   exact ⟨g,rfl,hs,C,hh⟩
end Bp
end Go.Proofs.YtdcfammglpebaaaGreat

namespace Go.Proofs.YtdcfammglpebaaaGreat
open Go.RowKit
open V (RowL RowL.alloc RowL.lt RowL.cell RowL.fz RowL.kept RowL.block RowL.set RowL.far)
open Sp (hid vrow vrow_at vrow_set own_kept own_keptK own_row own_shape)
open Sy
open Bm (MxR ZsR mOk)
open Ba (tr2)
namespace Bp
set_option maxRecDepth 100000 in
set_option maxHeartbeats 4000000 in
theorem mul_no2 (m n:Bool) (va vb:Value) (a b:List Nat) (w:World) (ha:Sl w va a) (hb:Sl w vb b) (hla:a.length≤9223372036854775807) (hlb:b.length≤9223372036854775807) (hr:¬ (R m a∧R n b)) :
  Calls Tryz.prog 30 #[.agg #[.bool m,va],.agg #[.bool n,vb]] w fun e w' => Kept w w'∧e = .returned (.tuple #[.agg #[.bool false,.slice none 0 0],.int .i64 10]):=by
 have HR:Hid (¬ (R m a∧R n b)):=hr
 have HA:Hid (Sl w va a∧Sl w vb b∧a.length≤9223372036854775807∧b.length≤9223372036854775807):=⟨ha,hb,hla,hlb⟩
 clear hr ha hb hla hlb
 have K3:∀ x y t,Kept w (((w.alloc x).alloc y).alloc t):=fun x y t => (((Kept.refl w).alloc x).alloc y).alloc t
 go_enter Tryz.func30,Tryz.ntmps30
 go_wp2_with fail
 refine (wrong_yes m n va vb a b _ (HA.out.1.kept (K3 _ _ _)) (HA.out.2.1.kept (K3 _ _ _)) HA.out.2.2.1 HA.out.2.2.2 HR.out).mono ?_
 rintro e w1 ⟨rfl,hk⟩
 obtain ⟨_,_,_,_,hR0,hR1⟩:=box_kept3 hk
 have hf:=hk.frozens
 have HK1:Hid (Kept w w1):=(K3 _ _ _).trans hk
 clear hk K3
 go_wp2
 exact bodyPost_ret (v:=.tuple #[.agg #[.bool false,.slice none 0 0],.int .i64 10]) (by simp [results,Tryz.results30,go_sem,hR0,hR1]) rfl ⟨(HK1.out.setCell (by simp; omega) _).setCell (by simp; omega) _,rfl⟩
def MulIs (B:Nat) (w':World) (z1 z2:ZE) (s:Bool) (v:Value) (c:Int):Prop:=c ≠ 0 ∨ (c = 0∧z1.right = true∧z2.right = true∧ZN B w' s v (M.int z1.neg z1.lim * M.int z2.neg z2.lim))
theorem MulIs.kept {B:Nat} {w' w'':World} {z1 z2:ZE} {s:Bool} {v:Value} {c:Int} (h:MulIs B w' z1 z2 s v c) (k:Kept w' w''):MulIs B w'' z1 z2 s v c:=h.imp id fun ⟨a,b,c,d⟩ => ⟨a,b,c,d.kept k⟩
theorem mul_ze (z1 z2:ZE) (w:World) (h1:z1.ok w) (h2:z2.ok w) :
  Calls Tryz.prog 30 #[.agg #[.bool z1.neg,z1.v],.agg #[.bool z2.neg,z2.v]] w fun e w' => Kept w w'∧∃ s ao k cap c,e = .returned (.tuple #[.agg #[.bool s,.slice ao k cap],.int .i64 c])∧MulIs w.heap.size w' z1 z2 s (.slice ao k cap) c:=by
 by_cases hr:R z1.neg z1.lim∧R z2.neg z2.lim
 ·
  refine (mul_any z1.neg z2.neg z1.v z2.v z1.lim z2.lim w h1.1 h2.1 hr.1 hr.2).mono ?_
  rintro e w' ⟨hk,s,ao,k,cap,c,rfl,⟨hc,l,g1,g2,g3⟩ | ⟨hc,_⟩⟩
  ·
   exact ⟨hk,s,ao,k,cap,c,rfl,.inr ⟨hc,right_R.2 hr.1,right_R.2 hr.2,l,g1,g2,g3⟩⟩
  ·
   exact ⟨hk,s,ao,k,cap,c,rfl,.inl (by rw [hc]; decide)⟩
 ·
  refine (mul_no2 z1.neg z2.neg z1.v z2.v z1.lim z2.lim w h1.1 h2.1 h1.2 h2.2 hr).mono ?_
  rintro e w' ⟨hk,rfl⟩
  exact ⟨hk,false,none,0,0,10,rfl,.inl (by decide)⟩
/- Rows times a number. -/
def valE (c:CE):Int:=M.int c.val.neg c.val.lim
theorem rowF_scale (f:Int):∀ {cs cs':List CE} (g g':Nat→Int),(∀ k,g' k = f * g k)→cs'.map CE.col = cs.map CE.col→cs'.map valE = cs.map (fun c => f * valE c)→∀ k,(cs'.foldl (fun h c => upd h c.col.toNat (M.int c.val.neg c.val.lim)) g') k = f * (cs.foldl (fun h c => upd h c.col.toNat (M.int c.val.neg c.val.lim)) g) k:=by
 intro cs
 induction cs with
 | nil =>
  intro cs' g g' hg h1 _ k
  cases cs' with
  | nil => exact hg k
  | cons c t => cases h1
 | cons c t ih =>
  intro cs' g g' hg h1 h2 k
  cases cs' with
  | nil => cases h1
  | cons c' t' =>
   rw [List.map_cons,List.map_cons] at h1 h2
   injection h1 with e1 h1
   injection h2 with e2 h2
   rw [List.foldl_cons,List.foldl_cons]
   refine ih _ _ (fun k => ?_) h1 h2 k
   rw [e1]
   unfold upd
   split
   ·
    exact e2
   ·
    exact hg k
theorem rowF_mul {f:Int} {cs cs':List CE} (h1:cs'.map CE.col = cs.map CE.col) (h2:cs'.map valE = cs.map (fun c => f * valE c)) (k:Nat):rowF cs' k = f * rowF cs k :=
 rowF_scale f (fun _ => 0) (fun _ => 0) (fun _ => (Int.mul_zero f).symm) h1 h2 k
theorem cOk_mul {n:Nat}:∀ {cs cs':List CE} {last:Int},cOk n last cs = true→cs'.map CE.col = cs.map CE.col→(∀ c ∈ cs',c.val.right = true∧c.val.nought = false)→cOk n last cs' = true:=by
 intro cs
 induction cs with
 | nil =>
  intro cs' last _ h _
  cases cs' with
  | nil => rfl
  | cons c t => cases h
 | cons c t ih =>
  intro cs' last h h1 h2
  cases cs' with
  | nil => cases h1
  | cons c' t' =>
   rw [List.map_cons,List.map_cons] at h1
   injection h1 with e1 h1
   unfold cOk at h ⊢
   rw [Bool.and_eq_true,Bool.and_eq_true] at h
   have h3:=h2 c' (List.mem_cons_self ..)
   rw [e1,ih h.2 h1 (fun x hx => h2 x (List.mem_cons_of_mem _ hx)),h.1.1,h3.1,h3.2]
   rfl
/- Lists of cells,number by number. -/
theorem flat3_put (z:ZE):∀ {L:List CE} {a:Nat} (ha:a < L.length),((L.flatMap CE.cells).set (a * 3 + 1) (.bool z.neg)).set (a * 3 + 2) z.v = (L.set a ⟨L[a].col,z⟩).flatMap CE.cells
 | c :: t,0,_ => rfl
 | c :: t,a + 1,ha => by
  have h3:(CE.cells c).length = 3:=rfl
  rw [List.set_cons_succ,List.flatMap_cons,List.flatMap_cons,List.set_append_right _ _ (by rw [h3]; omega),List.set_append_right _ _ (by rw [h3]; omega),h3,show (a + 1) * 3 + 1 - 3 = a * 3 + 1 by omega,show (a + 1) * 3 + 2 - 3 = a * 3 + 2 by omega,flat3_put z (L:=t) (a:=a) (by simpa using ha)]
  rfl
theorem flat2_put (z:ZE):∀ {L:List ZE} {a:Nat} (_:a < L.length),((L.flatMap ZE.cells).set (a * 2) (.bool z.neg)).set (a * 2 + 1) z.v = (L.set a z).flatMap ZE.cells
 | c :: t,0,_ => rfl
 | c :: t,a + 1,ha => by
  have h3:(ZE.cells c).length = 2:=rfl
  rw [List.set_cons_succ,List.flatMap_cons,List.flatMap_cons,List.set_append_right _ _ (by rw [h3]; omega),List.set_append_right _ _ (by rw [h3]; omega),h3,show (a + 1) * 2 - 2 = a * 2 by omega,show (a + 1) * 2 + 1 - 2 = a * 2 + 1 by omega,flat2_put z (L:=t) (a:=a) (by simpa using ha)]
theorem flat2_at:∀ {L:List ZE} {a q:Nat} {u:Value} (ha:a < L.length),(ZE.cells L[a])[q]? = some u→(L.flatMap ZE.cells)[a * 2 + q]? = some u
 | c :: t,0,q,u,_,h => by
  have hq:q < (ZE.cells c).length:=(List.getElem?_eq_some_iff.1 h).1
  rw [List.flatMap_cons,List.getElem?_append_left (by rw [Nat.zero_mul,Nat.zero_add]; exact hq),Nat.zero_mul,Nat.zero_add]
  exact h
 | c :: t,a + 1,q,u,ha,h => by
  have h3:(ZE.cells c).length = 2:=rfl
  rw [List.flatMap_cons,List.getElem?_append_right (by rw [h3]; omega),h3,show (a + 1) * 2 + q - 2 = a * 2 + q by omega]
  exact flat2_at (L:=t) (a:=a) (by simpa using ha) h
theorem flat2_len (L:List ZE):(L.flatMap ZE.cells).length = L.length * 2:=by
 induction L with
 | nil => rfl
 | cons c t ih => rw [List.flatMap_cons,List.length_append,ih,List.length_cons]; show 2 + _ = _; omega
theorem flat2_one (L:List ZE):∀ u ∈ L.flatMap ZE.cells,u.oneCell' = true:=fun u hu => by
 obtain ⟨z,_,h⟩:=List.mem_flatMap.1 hu
 rcases List.mem_cons.1 h with rfl | h
 ·
  rfl
 ·
  obtain rfl:=List.mem_singleton.1 h
  rfl
theorem add_off (b o j:Nat):(⟨b,o,none⟩:Addr).add j = ⟨b,o + j,none⟩:=by unfold Addr.add; split <;> simp_all
theorem zsr_src {w:World} {ao:Option Addr} {L:List ZE} (h:ZsR w ao L) (h0:0 < L.length):∃ ad,ao = some ad∧∀ j u,(L.flatMap ZE.cells)[j]? = some u→w.cell? (ad.add j) = some u:=by
 obtain ⟨b,off,rfl,hb,hx⟩:=h h0
 refine ⟨_,rfl,fun j u hu => ?_⟩
 rw [add_off]
 have hj:j < L.length * 2:=by rw [← flat2_len]; exact (List.getElem?_eq_some_iff.1 hu).1
 have hd:j / 2 < L.length:=by omega
 have h1:=hx (j / 2) hd
 obtain ⟨v,hv⟩:∃ v,(ZE.cells L[j / 2])[j % 2]? = some v:=⟨(ZE.cells L[j / 2])[j % 2]'(by show j % 2 < 2; omega),List.getElem?_eq_getElem _⟩
 have h2:=flat2_at hd hv
 rw [show j / 2 * 2 + j % 2 = j by omega,hu] at h2
 injection h2 with h2
 subst h2
 have h3:=h1.1 (j % 2) u hv
 rw [show off + j / 2 * 2 + j % 2 = off + j by omega] at h3
 exact h3
/- The two of them. -/
theorem GrC.kx {T:Nat→Prop} {B:Nat} {w w':World} {g n:Nat} {hs:Nat→Value} {L:Nat→List CE} (h:GrC B w g n hs L) (k:KX T w w') (h1:Free 34 T w) (h2:Free 39 T w):GrC B w' g n hs L :=
 ⟨h.base,RowL_kx h.row k h1,fun j hj => own_free (h.own j hj) k h2,h.apart⟩
theorem tr2_inj {p q i k:Nat} (h:tr2 p q i = tr2 p q k):i = k:=by rw [← tr2_tr2 p q i,h,tr2_tr2]
theorem GrC.swap {B:Nat} {w:World} {g n p q:Nat} {hs:Nat→Value} {L:Nat→List CE} (h:GrC B w g n hs L) (hp:p < n) (hq:q < n) :
  GrC B ((w.setCell ⟨g,p,none⟩ (hs q)).setCell ⟨g,q,none⟩ (hs p)) g n (fun j => hs (tr2 p q j)) (fun j => L (tr2 p q j)):=by
 have k2:KX (fun k => k = g) w ((w.setCell ⟨g,p,none⟩ (hs q)).setCell ⟨g,q,none⟩ (hs p)):=((KX.refl w).setCell (T:=fun k => k = g) (p:=⟨g,p,none⟩) (.inl rfl) _).setCell (p:=⟨g,q,none⟩) (.inl rfl) _
 have hfr:Free 39 (fun k => k = g) w:=rowl_free h.row (by decide)
 refine ⟨h.base,?_,fun j hj => own_free (h.own _ (tr2_lt hp hq hj)) k2 hfr,fun j k hj hk hne b hb => h.apart _ _ (tr2_lt hp hq hj) (tr2_lt hp hq hk) (fun e => hne (tr2_inj e)) b hb⟩
 have r:=(h.row.set p (hs q)).set q (hs p)
 rw [vrow_set,vrow_set] at r
 have e:(fun j => if j = q then hs p else if j = p then hs q else hs j) = fun j => hs (tr2 p q j):=funext fun j => by
  unfold tr2
  by_cases e1:j = p
  ·
   by_cases e2:j = q
   ·
    rw [if_pos e2,if_pos e1,← e2,e1]
   ·
    rw [if_neg e2,if_pos e1,if_pos e1]
  ·
   by_cases e2:j = q
   ·
    rw [if_pos e2,if_neg e1,if_pos e2]
   ·
    rw [if_neg e2,if_neg e1,if_neg e1,if_neg e2]
 rw [e] at r
 exact r
structure OS (w0 w:World) (B g n:Nat) (hs:Nat→Value) (C:Nat→List CE) (gc cc:Nat) (Cs:List ZE):Prop where
 kept:Kept w0 w
 low:w0.heap.size≤B
 grid:GrC B w g n hs C
 own:∀ j,j < n→∀ x ∈ C j,New B w x.val.v x.val.lim
 cl:w.ownsRow B 37 2 (.slice (some ⟨gc,0,none⟩) n cc) n (Cs.flatMap ZE.cells)
 ok:∀ x ∈ Cs,x.ok w0 ∨ New B w x.v x.lim
section
variable {w0 w w':World} {B g n gc cc:Nat} {hs:Nat→Value} {C:Nat→List CE} {Cs:List ZE}
theorem OS.later (h:OS w0 w B g n hs C gc cc Cs) (k:Kept w w'):OS w0 w' B g n hs C gc cc Cs :=
 ⟨h.kept.trans k,h.low,h.grid.kept k,fun j hj x hx => (h.own j hj x hx).kept k,own_keptK h.cl k,fun x hx => (h.ok x hx).imp id fun h => h.kept k⟩
theorem OS.len (h:OS w0 w B g n hs C gc cc Cs):Cs.length = n:=by have:=h.cl.1; rw [flat2_len] at this; omega
theorem OS.gcB (h:OS w0 w B g n hs C gc cc Cs):B≤gc∧gc < w.heap.size:=World.ownsRow.lt h.cl gc rfl
theorem OS.fr (h:OS w0 w B g n hs C gc cc Cs) {t:TypeId} (ht:t ≠ 37):Free t (fun k => k = gc) w:=fun k hk cur fr e => by
 obtain ⟨c,f,h1⟩:=Lib.ownsRow_kind h.cl gc rfl
 rw [hk,h1] at e
 injection e with e
 injection e with _ e2
 exact ht e2.symm
theorem OS.swapG {p q:Nat} (h:OS w0 w B g n hs C gc cc Cs) (hp:p < n) (hq:q < n):OS w0 ((w.setCell ⟨g,p,none⟩ (hs q)).setCell ⟨g,q,none⟩ (hs p)) B g n (fun j => hs (tr2 p q j)) (fun j => C (tr2 p q j)) gc cc Cs:=by
 have k2:KX (fun k => k = g) w ((w.setCell ⟨g,p,none⟩ (hs q)).setCell ⟨g,q,none⟩ (hs p)):=((KX.refl w).setCell (T:=fun k => k = g) (p:=⟨g,p,none⟩) (.inl rfl) _).setCell (p:=⟨g,q,none⟩) (.inl rfl) _
 exact ⟨KX.kept h.kept k2 fun k hk => by rw [hk]; exact Nat.le_trans h.low h.grid.base,h.low,h.grid.swap hp hq,fun j hj x hx => New_kx (h.own _ (tr2_lt hp hq hj) x hx) k2 (rowl_free h.grid.row (by decide)),own_free h.cl k2 (rowl_free h.grid.row (by decide)),fun x hx => (h.ok x hx).imp id fun h2 => New_kx h2 k2 (rowl_free h.grid.row (by decide))⟩
theorem OS.putC {j:Nat} (h:OS w0 w B g n hs C gc cc Cs) (z:ZE) (hj:j < n) (hz:z.ok w0 ∨ New B w z.v z.lim):OS w0 ((w.setCell ⟨gc,j * 2,none⟩ (.bool z.neg)).setCell ⟨gc,j * 2 + 1,none⟩ z.v) B g n hs C gc cc (Cs.set j z):=by
 have kx:KX (fun k => k = gc) w ((w.setCell ⟨gc,j * 2,none⟩ (.bool z.neg)).setCell ⟨gc,j * 2 + 1,none⟩ z.v):=((KX.refl w).setCell (T:=fun k => k = gc) (p:=⟨gc,j * 2,none⟩) (.inl rfl) _).setCell (p:=⟨gc,j * 2 + 1,none⟩) (.inl rfl) _
 have ho2:=((h.cl.stored (j * 2) (.bool z.neg)).1.stored (j * 2 + 1) z.v).1
 rw [flat2_put z (by rw [h.len]; exact hj)] at ho2
 refine ⟨KX.kept h.kept kx fun k hk => by rw [hk]; exact Nat.le_trans h.low h.gcB.1,h.low,h.grid.kx kx (h.fr (by decide)) (h.fr (by decide)),fun i hi x hx => New_kx (h.own i hi x hx) kx (h.fr (by decide)),ho2,fun x hx => ?_⟩
 rcases List.mem_or_eq_of_mem_set hx with hx | rfl
 ·
  exact (h.ok x hx).imp id fun h2 => New_kx h2 kx (h.fr (by decide))
 ·
  exact hz.imp id fun h2 => New_kx h2 kx (h.fr (by decide))
theorem OS.putG {p a G rc:Nat} (h:OS w0 w B g n hs C gc cc Cs) (hp:p < n) (e:hs p = .slice (some ⟨G,0,none⟩) (C p).length rc) (z:ZE) (ha:a < (C p).length) (hz:New B w z.v z.lim) :
  OS w0 ((w.setCell ⟨G,a * 3 + 1,none⟩ (.bool z.neg)).setCell ⟨G,a * 3 + 2,none⟩ z.v) B g n hs (fun j => if j = p then (C p).set a ⟨(C p)[a].col,z⟩ else C j) gc cc Cs:=by
 have hown:=h.grid.own p hp
 rw [e] at hown
 have hob:∀ b,(hs p).ownBlock = some b→b = G:=fun b hb => by rw [e] at hb; cases hb; rfl
 have kx:KX (fun k => k = G) w ((w.setCell ⟨G,a * 3 + 1,none⟩ (.bool z.neg)).setCell ⟨G,a * 3 + 2,none⟩ z.v):=((KX.refl w).setCell (T:=fun k => k = G) (p:=⟨G,a * 3 + 1,none⟩) (.inl rfl) _).setCell (p:=⟨G,a * 3 + 2,none⟩) (.inl rfl) _
 have fr:∀ {t:TypeId},t ≠ 39→Free t (fun k => k = G) w:=fun ht k hk cur f e9 => by
  obtain ⟨c,f2,h1⟩:=Lib.ownsRow_kind hown G rfl
  rw [hk,h1] at e9
  injection e9 with e9
  injection e9 with _ e2
  exact ht e2.symm
 have hlt:=World.ownsRow.lt hown G rfl
 refine ⟨KX.kept h.kept kx fun k hk => by rw [hk]; exact Nat.le_trans h.low hlt.1,h.low,⟨h.grid.base,RowL_kx h.grid.row kx (fr (by decide)),fun j hj => ?_,h.grid.apart⟩,fun j hj x hx => ?_,own_free h.cl kx (fr (by decide)),fun x hx => (h.ok x hx).imp id fun h2 => New_kx h2 kx (fr (by decide))⟩
 ·
  by_cases ej:j = p
  ·
   subst ej
   simp only [if_pos]
   have ho2:=((hown.stored (a * 3 + 1) (.bool z.neg)).1.stored (a * 3 + 2) z.v).1
   rw [flat3_put z ha] at ho2
   rw [e,List.length_set]
   exact ho2
  ·
   simp only [if_neg ej]
   exact own_kept (h.grid.own j hj) fun b hb => kx.block b (World.ownsRow.lt (h.grid.own j hj) b hb).2 fun eb => h.grid.apart j p hj hp ej b hb (by rw [e,eb]; rfl)
 ·
  by_cases ej:j = p
  ·
   subst ej
   simp only [if_pos] at hx
   rcases List.mem_or_eq_of_mem_set hx with hx | rfl
   ·
    exact New_kx (h.own j hj x hx) kx (fr (by decide))
   ·
    exact New_kx hz kx (fr (by decide))
  ·
   simp only [if_neg ej] at hx
   exact New_kx (h.own j hj x hx) kx (fr (by decide))
theorem new_zok {V:World} {z:ZE} (h:New B V z.v z.lim) (hl:z.lim.length≤9223372036854775807):z.ok V:=⟨h.sl,hl⟩
theorem OS.zsr (h:OS w0 w B g n hs C gc cc Cs) (hl:∀ x ∈ Cs,x.lim.length≤9223372036854775807):ZsR w (some ⟨gc,0,none⟩) Cs:=fun _ => ⟨gc,0,rfl,h.gcB.2,fun i hi => ⟨fun j u hu => by
  have hj:j < 2:=(List.getElem?_eq_some_iff.1 hu).1
  have hlen:=h.len
  rw [Nat.zero_add]
  exact (h.cl.cellAt _ (by omega)).trans (flat2_at hi hu),(h.ok _ (List.getElem_mem hi)).elim (fun h2 => h2.kept h.kept) fun h2 => new_zok h2 (hl _ (List.getElem_mem hi))⟩⟩
end
end Bp
end Go.Proofs.YtdcfammglpebaaaGreat

namespace Go.Proofs.YtdcfammglpebaaaGreat
open Go.RowKit
open V (RowL)
open Sp (hid vrow)
open Sy
open Bm (ZI ZI.kept ZI.of MxR ZsR mOk)
open Ba (tr2 lastP Fits stg wideZ facS)
namespace Bp
theorem row_free {B:Nat} {w:World} {e t:TypeId} {sz n m c G:Nat} {xs:List Value} (h:w.ownsRow B e sz (.slice (some ⟨G,0,none⟩) m c) n xs) (ht:t ≠ e):Free t (fun k => k = G) w:=fun k hk cur f e9 => by
 obtain ⟨c,f2,h1⟩:=Lib.ownsRow_kind h G rfl
 rw [hk,h1] at e9
 injection e9 with e9
 injection e9 with _ e2
 exact ht e2.symm
theorem vrow_some {n q:Nat} {hs:Nat→Value} (hq:q < n) (p:Nat) (v:Value):∃ x,((vrow n hs).set p v)[q]? = some x:=⟨_,List.getElem?_eq_getElem (by rw [List.length_set]; unfold vrow; simpa using hq)⟩
def RowI (f:Int) (R0:List CE) (t:Nat) (R1:List CE):Prop :=
 R1.length = R0.length∧∀ j (hj:j < R0.length) (hj1:j < R1.length),R1[j].col = R0[j].col∧if j < t then R1[j].val.right = true∧R1[j].val.nought = false∧valE R1[j] = f * valE R0[j] else R1[j] = R0[j]
theorem RowI.zero (f:Int) (R0:List CE):RowI f R0 0 R0:=⟨rfl,fun j _ _ => ⟨rfl,by rw [if_neg (Nat.not_lt_zero _)]⟩⟩
theorem RowI.at {f:Int} {R0 R1:List CE} {t:Nat} (h:RowI f R0 t R1) (h0:t < R0.length) (h1:t < R1.length):R1[t] = R0[t]:=by
 have:=(h.2 t h0 h1).2
 rw [if_neg (Nat.lt_irrefl _)] at this
 exact this
theorem RowI.step {f:Int} {R0 R1:List CE} {t:Nat} (h:RowI f R0 t R1) (h0:t < R0.length) (h1:t < R1.length) {z:ZE} (hr:z.right = true) (hn:z.nought = false) (hv:M.int z.neg z.lim = f * valE R0[t]):RowI f R0 (t + 1) (R1.set t ⟨R1[t].col,z⟩):=by
 refine ⟨by rw [List.length_set]; exact h.1,fun j hj hj1 => ?_⟩
 have hj2:j < R1.length:=by rw [h.1]; exact hj
 by_cases e:j = t
 ·
  subst e
  rw [List.getElem_set_self]
  rw [if_pos (Nat.lt_succ_self _)]
  exact ⟨(h.2 j h0 h1).1,hr,hn,hv⟩
 ·
  rw [List.getElem_set_ne (fun e' => e e'.symm)]
  refine ⟨(h.2 j hj hj2).1,?_⟩
  have h3:=(h.2 j hj hj2).2
  by_cases e2:j < t
  ·
   rw [if_pos e2] at h3
   rw [if_pos (by omega)]
   exact h3
  ·
   rw [if_neg e2] at h3
   rw [if_neg (by omega)]
   exact h3
theorem RowI.fin {f:Int} {R0 R1:List CE} {t:Nat} (h:RowI f R0 t R1) (ht:R0.length≤t):R1.map CE.col = R0.map CE.col∧R1.map valE = R0.map (fun c => f * valE c)∧∀ c ∈ R1,c.val.right = true∧c.val.nought = false:=by
 have key:∀ j (hj:j < R0.length) (hj1:j < R1.length),R1[j].col = R0[j].col∧R1[j].val.right = true∧R1[j].val.nought = false∧valE R1[j] = f * valE R0[j]:=fun j hj hj1 => by
  have:=h.2 j hj hj1
  rw [if_pos (by omega)] at this
  exact this
 refine ⟨List.ext_getElem (by simp [h.1]) fun j h1 h2 => ?_,List.ext_getElem (by simp [h.1]) fun j h1 h2 => ?_,fun c hc => ?_⟩
 ·
  rw [List.getElem_map,List.getElem_map]
  exact (key j (by simpa using h2) (by simpa using h1)).1
 ·
  rw [List.getElem_map,List.getElem_map]
  exact (key j (by simpa using h2) (by simpa using h1)).2.2.2
 ·
  obtain ⟨j,hj,rfl⟩:=List.getElem_of_mem hc
  have:=key j (by rw [← h.1]; exact hj) hj
  exact ⟨this.2.1,this.2.2.1⟩
section
variable {n p q:Nat} {L:List LE} {hs:Nat→Value} {C C1:Nat→List CE} {f:Int}
theorem in_mat (hk:∀ j,j < n→(C j).map keyE = (L.getD j l0).cs.map keyE) (hp:p < n) (hq:q < n) (h1:∀ j,j < n→j ≠ p→C1 j = C (tr2 p q j)) (h2:(C1 p).map CE.col = (C (tr2 p q p)).map CE.col) (h3:(C1 p).map valE = (C (tr2 p q p)).map (fun c => f * valE c)) :
  ∀ i k,i < n→k < n→matF (lL n hs C1) i k = opF p q f (matF L) i k:=by
 intro i k hi _
 rw [lL_mat hi]
 unfold opF
 by_cases e:i = p
 ·
  subst e
  rw [if_pos rfl,rowF_mul h2 h3]
  show f * rowF _ k = f * rowF _ k
  rw [rowF_key (hk _ (tr2_lt hp hq hp))]
  rfl
 ·
  rw [if_neg e,h1 i hi e]
  show rowF _ k = rowF _ k
  rw [rowF_key (hk _ (tr2_lt hp hq hi))]
  rfl
theorem in_ok (hok:mOk L = true) (hl:n = L.length) (hk:∀ j,j < n→(C j).map keyE = (L.getD j l0).cs.map keyE) (hp:p < n) (hq:q < n) (h1:∀ j,j < n→j ≠ p→C1 j = C (tr2 p q j)) (h2:(C1 p).map CE.col = (C (tr2 p q p)).map CE.col) (h3:∀ c ∈ C1 p,c.val.right = true∧c.val.nought = false):mOk (lL n hs C1) = true:=by
 have hrow:∀ j,j < n→cOk n (-1) (C (tr2 p q j)) = true:=fun j hj => by
  rw [cOk_key (hk _ (tr2_lt hp hq hj)),hl]
  exact mOk_row hok _
 refine lL_ok ?_ fun j hj => ?_
 ·
  unfold mOk at hok
  rw [Bool.and_eq_true,decide_eq_true_eq] at hok
  rw [hl]
  exact hok.1
 ·
  by_cases e:j = p
  ·
   subst e
   exact cOk_mul (hrow j hj) h2 h3
  ·
   rw [h1 j hj e]
   exact hrow j hj
end
section
variable {n p q:Nat} {Bs:List ZE} {z:ZE}
theorem c_len (a b:ZE):(((Bs.set p a).set q b).set p z).length = Bs.length:=by simp
theorem c_at (hp:p < Bs.length) (hq:q < Bs.length) {i:Nat} (hi:i < Bs.length):(((Bs.set p Bs[q]).set q Bs[p]).set p z)[i]'(by rw [c_len]; exact hi) = if i = p then z else Bs[tr2 p q i]'(tr2_lt hp hq hi):=by
 by_cases e:i = p
 ·
  subst e
  rw [List.getElem_set_self,if_pos rfl]
 ·
  rw [if_neg e,List.getElem_set_ne (fun e' => e e'.symm)]
  by_cases e2:i = q
  ·
   subst e2
   rw [List.getElem_set_self]
   have:tr2 p i i = p:=by unfold tr2; rw [if_neg e,if_pos rfl]
   congr 1
   exact this.symm
  ·
   rw [List.getElem_set_ne (fun e' => e2 e'.symm),List.getElem_set_ne (fun e' => e e'.symm)]
   have:tr2 p q i = i:=by unfold tr2; rw [if_neg e,if_neg e2]
   congr 1
   exact this.symm
theorem c_fin (hp:p < Bs.length) (hq:q < Bs.length) {i:Nat} (hi:i < Bs.length):zsF (((Bs.set p Bs[q]).set q Bs[p]).set p z) i = (if i = p then M.int z.neg z.lim else zsF Bs (tr2 p q i))∧zsB (((Bs.set p Bs[q]).set q Bs[p]).set p z) i = (if i = p then z.right else zsB Bs (tr2 p q i)):=by
 unfold zsF zsB
 rw [getD_in (show i < (((Bs.set p Bs[q]).set q Bs[p]).set p z).length by rw [c_len]; exact hi),getD_in (tr2_lt hp hq hi),c_at hp hq hi]
 by_cases e:i = p
 ·
  rw [if_pos e,if_pos e,if_pos e]; exact ⟨rfl,rfl⟩
 ·
  rw [if_neg e,if_neg e,if_neg e]; exact ⟨rfl,rfl⟩
theorem c_right (hp:p < Bs.length) (hq:q < Bs.length) (hz:z.right = true) (hBq:zsB Bs q = true):(∀ j,j < Bs.length→zsB (((Bs.set p Bs[q]).set q Bs[p]).set p z) j = true) ↔ ∀ j,j < Bs.length→zsB Bs j = true:=by
 constructor
 ·
  intro h j hj
  have h1:=h (tr2 p q j) (tr2_lt hp hq hj)
  rw [(c_fin hp hq (tr2_lt hp hq hj)).2,tr2_tr2] at h1
  by_cases e:tr2 p q j = p
  ·
   have e2:j = q:=by
    have:=congrArg (tr2 p q) e
    rw [tr2_tr2] at this
    rw [this]
    unfold tr2
    rw [if_pos rfl]
   rw [e2]; exact hBq
  ·
   rw [if_neg e] at h1
   exact h1
 ·
  intro h j hj
  rw [(c_fin hp hq hj).2]
  by_cases e:j = p
  ·
   rw [if_pos e]; exact hz
  ·
   rw [if_neg e]; exact h _ (tr2_lt hp hq hj)
end
theorem SolIs.three {w:World} {n m limbs:Nat} {bq:Nat→Bool} {M:Nat→Nat→Int} {b:Nat→Int} {ps:List (Nat × Nat)} {e:Ending} {w':World} (h:SolIs w n m limbs bq M b ps (bkA n M b ps) e w') (hm:m = n) :
  Kept w w'∧∃ xo xn xc s o k c c0,e = .returned (.tuple #[.agg #[.slice xo xn xc,.bool s,.slice o k c],.int .i64 c0])∧((c0 = 10∧¬ ∀ j,j < m→bq j = true) ∨ (c0 = 13∧∀ j,j < m→bq j = true) ∨ (c0 = 0∧(∀ j,j < m→bq j = true)∧xn = n∧SdX (EN w.heap.size) w.heap.size w' xo n xc (solX n M b ps)∧ZN w.heap.size w' s (.slice o k c) (solD M ps))):=by
 have hall:anyB (fun j => !bq j) m = false→∀ j,j < m→bq j = true:=fun h2 j hj => by
  cases e:bq j with
  | true => rfl
  | false =>
   have:anyB (fun j => !bq j) m = true:=anyB_ex.2 ⟨j,hj,by rw [e]; rfl⟩
   rw [h2] at this
   cases this
 obtain ⟨hk,⟨h1,_⟩ | ⟨_,h1,rfl⟩ | ⟨_,h2,⟨_,rfl⟩ | ⟨_,⟨_,rfl⟩ | ⟨_,xo,xc,s,o,k,c,rfl,hX,hD⟩⟩⟩⟩:=h
 ·
  exact absurd hm h1
 ·
  refine ⟨hk,none,0,0,false,none,0,0,10,rfl,.inl ⟨rfl,fun h => ?_⟩⟩
  obtain ⟨j,hj,e⟩:=anyB_ex.1 h1
  rw [h j hj] at e
  cases e
 ·
  exact ⟨hk,none,0,0,false,none,0,0,13,rfl,.inr (.inl ⟨rfl,hall h2⟩)⟩
 ·
  exact ⟨hk,none,0,0,false,none,0,0,13,rfl,.inr (.inl ⟨rfl,hall h2⟩)⟩
 ·
  exact ⟨hk,xo,n,xc,s,o,k,c,0,rfl,.inr (.inr ⟨rfl,hall h2,rfl,hX,hD⟩)⟩
end Bp
end Go.Proofs.YtdcfammglpebaaaGreat
