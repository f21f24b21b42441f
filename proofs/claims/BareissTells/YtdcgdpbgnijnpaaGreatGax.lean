/- A new list of whole numbers; what holds while back goes through the stages. shuntref12.SameInts of equal lists; limb.Add of whatever numbers; lists of one's own as arguments. -/
import Derived.Test.YtdcgdpbgnijnpaaGreatGaw
import Derived.Test.YtdcgdpbgnijnpaaGreatTr
import Derived.Laws.MakeOwn
import Derived.Test.YtdcgdpbgnijnpaaGreatGav
import Derived.Test.YtdcgdpbgnijnpaaGreatGad
namespace Go.Proofs.YtdcgdpbgnijnpaaGreat
open Go.RowKit Go.MapKept Go.Shelf
open V (RowL RowL.alloc RowL.lt RowL.cell RowL.fz RowL.kept RowL.set RowL.far RowL.block)
open Sp (hid)
open Ba (stg lastP pivs wideZ facS Fits)
open Bm (ZI ZI.kept)
namespace Bp
theorem made_at (z:Array Value) (n i:Nat) (hi:i < n):(madeCells z n).toList[i]? = some (z[i % z.size]!):=by
 unfold madeCells
 rw [Array.getElem?_toList,Array.getElem?_map,Array.getElem?_range]
 simp [hi]
theorem make_zs {n:Nat} (hn:n≤1000000) (u:World):∃ W,(Instr.makeSlice 23 (.int .i64 (n:Int)) (.int .i64 (n:Int))).run Tryz.prog u = .ok (.slice (some ⟨u.heap.size,0,none⟩) n n) W∧Kept u W∧W.heap.size = u.heap.size + 1∧SdX (EN u.heap.size) u.heap.size W (some ⟨u.heap.size,0,none⟩) n n (fun _ => 0):=by
 obtain ⟨i0,hi,hz0,hz1,hz2⟩:=info_parts info_z
 have h:=run_make (P:=Tryz.prog) u 23 37 i0 (.agg #[.bool false,.slice none 0 0]) und_zs hi hz0 .i64 .i64 (n:Int) (n:Int) (by omega) (Int.le_refl _) (by rw [hz2]; omega) (by omega)
 simp only [Int.toNat_natCast,hz1] at h
 refine ⟨_,h,(Kept.refl u).alloc _,by simp,fun h0 => ⟨u.heap.size,(madeCells (Value.agg #[.bool false,.slice none 0 0]).cells (n * 2)).toList,rfl,⟨by rw [Array.length_toList,size_madeCells],.inr ⟨u.heap.size,n,madeCells (Value.agg #[.bool false,.slice none 0 0]).cells (n * 2),rfl,Nat.le_refl _,heap_alloc_new u _,Nat.le_refl _,by unfold maxLen; omega,size_madeCells _ _,List.take_of_length_le (by rw [Array.length_toList,size_madeCells]; exact Nat.le_refl _)⟩⟩,fun j hj => ⟨false,none,0,0,?_,?_,[],⟨(fun _ h => by cases h),.inl ⟨rfl,rfl⟩⟩,⟨fun _ h => (by cases h),.inl rfl,by decide,fun _ => rfl⟩,rfl⟩⟩⟩
 ·
  rw [made_at _ _ _ (by omega),show (j * 2) % (Value.agg #[.bool false,.slice none 0 0]).cells.size = 0 from Nat.mul_mod_left j 2]
  rfl
 ·
  rw [made_at _ _ _ (by omega),show (j * 2 + 1) % (Value.agg #[.bool false,.slice none 0 0]).cells.size = 1 from by show (j * 2 + 1) % 2 = 1; omega]
  rfl
structure BkS (n:Nat) (w0 W:World) (B1:Nat) (p2 p3 p4 p5 p6 p7 fb:Nat) (uo:Option Addr) (uc:Nat) (xo:Option Addr) (xc:Nat) (s6:Bool) (o6:Option Addr) (k6 c6:Nat) (z:Int) (zs:Nat→Int):Prop where
 kept:Kept w0 W
 b2:RowL 27 W p2 [.pointer (some ⟨fb,0,none⟩)]
 b3:RowL 23 W p3 [.slice uo n uc]
 b4:RowL 23 W p4 [.slice none 0 0]
 b5:RowL 28 W p5 [.int .i64 0]
 b6:RowL 37 W p6 [.bool s6,.slice o6 k6 c6]
 b7:RowL 23 W p7 [.slice xo n xc]
 d:ZN w0.heap.size W s6 (.slice o6 k6 c6) z
 x:SdX (EN w0.heap.size) B1 W xo n xc zs
 far:p6 < B1∧w0.heap.size≤B1
section
variable {n:Nat} {w0 W W':World} {B1 p2 p3 p4 p5 p6 p7 fb:Nat} {uo:Option Addr} {uc:Nat} {xo:Option Addr} {xc:Nat} {s6:Bool} {o6:Option Addr} {k6 c6:Nat} {z:Int} {zs zs':Nat→Int}
theorem BkS.kx {T:Nat→Prop} (h:BkS n w0 W B1 p2 p3 p4 p5 p6 p7 fb uo uc xo xc s6 o6 k6 c6 z zs) (k:KX T W W') (hT:∀ t,Free t T W) (h0:∀ k,T k→w0.heap.size≤k):BkS n w0 W' B1 p2 p3 p4 p5 p6 p7 fb uo uc xo xc s6 o6 k6 c6 z zs :=
 ⟨KX.kept h.kept k h0,RowL_kx h.b2 k (hT _),RowL_kx h.b3 k (hT _),RowL_kx h.b4 k (hT _),RowL_kx h.b5 k (hT _),RowL_kx h.b6 k (hT _),RowL_kx h.b7 k (hT _),h.d.kx k (hT _),h.x.kx (EN.keeps _) k (hT _) (hT _),h.far⟩
theorem BkS.later (h:BkS n w0 W B1 p2 p3 p4 p5 p6 p7 fb uo uc xo xc s6 o6 k6 c6 z zs) (k:Kept W W'):BkS n w0 W' B1 p2 p3 p4 p5 p6 p7 fb uo uc xo xc s6 o6 k6 c6 z zs :=
 h.kx (T:=fun _ => False) (KX.of k) (fun _ _ h => h.elim) (fun _ h => h.elim)
theorem BkS.congr (h:BkS n w0 W B1 p2 p3 p4 p5 p6 p7 fb uo uc xo xc s6 o6 k6 c6 z zs) (e:∀ j,j < n→zs j = zs' j):BkS n w0 W B1 p2 p3 p4 p5 p6 p7 fb uo uc xo xc s6 o6 k6 c6 z zs' :=
 ⟨h.kept,h.b2,h.b3,h.b4,h.b5,h.b6,h.b7,h.d,h.x.congr e,h.far⟩
theorem BkS.own {B:Nat} (hB:w0.heap.size≤B) (f:List Nat→Nat→Int):OwnFrom B (fun (pre:List Nat) W => BkS n w0 W B1 p2 p3 p4 p5 p6 p7 fb uo uc xo xc s6 o6 k6 c6 z (f pre)):=by
 intro pre W W' row h hg hr
 refine h.kx (KX.grown hg) (fun t k hk cur fr e => ?_) (fun k hk => ?_)
 ·
  obtain ⟨_,o,ho,hc⟩:=hr k hk.symm
  rw [ho] at e
  cases e
  cases hc
 ·
  have:=(hr k hk.symm).1
  omega
theorem BkS.put {g j:Nat} {s:Bool} {ao:Option Addr} {k cap:Nat} {y:Int} (h:BkS n w0 W B1 p2 p3 p4 p5 p6 p7 fb uo uc (some ⟨g,0,none⟩) xc s6 o6 k6 c6 z zs) (hj:j < n) (hz:ZN w0.heap.size W s (.slice ao k cap) y) :
  BkS n w0 ((W.setCell ⟨g,j * 2,none⟩ (.bool s)).setCell ⟨g,j * 2 + 1,none⟩ (.slice ao k cap)) B1 p2 p3 p4 p5 p6 p7 fb uo uc (some ⟨g,0,none⟩) xc s6 o6 k6 c6 z (upd zs j y)∧KX (fun k => k = g) W ((W.setCell ⟨g,j * 2,none⟩ (.bool s)).setCell ⟨g,j * 2 + 1,none⟩ (.slice ao k cap)):=by
 obtain ⟨h1,kx⟩:=h.x.put (EN.keeps _) hj hz
 have hfr:∀ t,t ≠ 37→Free t (fun k => k = g) W:=fun t ht => h.x.free (by omega) ht
 obtain ⟨g',_,_,_,_,e,hg,_⟩:=h.x.at (j:=j) hj
 cases e
 have hf:=h.far
 refine ⟨⟨KX.kept h.kept kx (fun k hk => by rw [hk]; omega),RowL_kx h.b2 kx (hfr _ (by decide)),RowL_kx h.b3 kx (hfr _ (by decide)),RowL_kx h.b4 kx (hfr _ (by decide)),RowL_kx h.b5 kx (hfr _ (by decide)),World.rowIs.of_block h.b6 (kx.block p6 h.b6.lt (by omega)),RowL_kx h.b7 kx (hfr _ (by decide)),h.d.kx kx (hfr _ (by decide)),h1,h.far⟩,kx⟩
end
section
variable {n:Nat} {w0 W W':World} {p4 p5:Nat} {zs:Nat→Int}
theorem SdX.imp {E E':World→Bool→Value→Int→Prop} {B:Nat} {so:Option Addr} {sc:Nat} (h:SdX E B W so n sc zs) (hE:∀ s v z,E W s v z→E' W s v z):SdX E' B W so n sc zs:=fun h0 => by
 obtain ⟨g,xs,e,ho,hx⟩:=h h0
 refine ⟨g,xs,e,ho,fun j hj => ?_⟩
 obtain ⟨s,ao,k,cap,x1,x2,x3⟩:=hx j hj
 exact ⟨s,ao,k,cap,x1,x2,hE _ _ _ x3⟩
theorem SdX.mono2 {E:World→Bool→Value→Int→Prop} {B B':Nat} {so:Option Addr} {sc:Nat} (h:SdX E B W so n sc zs) (hB:B'≤B):SdX E B' W so n sc zs:=fun h0 => by
 obtain ⟨g,xs,e,ho,hx⟩:=h h0
 exact ⟨g,xs,e,⟨ho.1,ho.2.imp id fun ⟨g,cap,cur,e,hb,r⟩ => ⟨g,cap,cur,e,Nat.le_trans hB hb,r⟩⟩,hx⟩
structure BkE (w0 W:World) (p4 p5:Nat):Prop where
 kept:Kept w0 W
 b4:RowL 23 W p4 [.slice none 0 0]
 b5:RowL 28 W p5 [.int .i64 13]
theorem BkE.own {β:Type} {B:Nat} (hB:w0.heap.size≤B):OwnFrom B (fun (_:β) W => BkE w0 W p4 p5):=by
 intro pre W W' row h hg hr
 have hf:∀ t,Free t (fun k => some k = row) W:=fun t k hk cur fr e => by
  obtain ⟨_,o,ho,hc⟩:=hr k hk.symm
  rw [ho] at e
  cases e
  cases hc
 refine ⟨KX.kept h.kept (KX.grown hg) (fun k hk => ?_),RowL_kx h.b4 (KX.grown hg) (hf _),RowL_kx h.b5 (KX.grown hg) (hf _)⟩
 have:=(hr k hk.symm).1
 omega
theorem row_ownF {β:Type} {B:Nat} {t:TypeId} (q:Nat) (xs:List Value):OwnFrom B (fun (_:β) W => RowL t W q xs):=by
 intro _ W W' row h hg hr
 refine RowL_kx h (KX.grown hg) (fun k hk cur fr e => ?_)
 obtain ⟨_,o,ho,hc⟩:=hr k hk.symm
 rw [ho] at e
 cases e
 cases hc
theorem kx_from {g B:Nat} (k:KX (fun k => k = g) W W') (hg:∀ o,W.heap[g]? = some o→o.isCells = true):KeepsFrom B W W':=by
 refine ⟨k.size,fun i o _ ho hc => (k.block i (Array.getElem?_eq_some_iff.1 ho).1 (fun e => ?_)).trans ho⟩
 rw [e] at ho
 rw [hg o ho] at hc
 cases hc
theorem kx_keepB {g Bs:Nat} {so:Option Addr} (k:KX (fun k => k = g) W W') (h1:Bs < W.heap.size) (h2:Bs ≠ g) (h3:∀ i,so = some ⟨i,0,none⟩→i < W.heap.size∧i ≠ g):KeepB Bs so W W' :=
 ⟨k.block Bs h1 h2,fun i hi => k.block i (h3 i hi).1 (h3 i hi).2⟩
end
def noDefer (ops:Array Oper):Bool:=ops.all fun o => match o.op with
 | .defer _ => false
 | _ => true
theorem noDefer_spec {ops:Array Oper} (h:noDefer ops = true):∀ (i:Nat) (o:Oper),ops[i]? = some o→∀ c,o.op ≠ .defer c:=by
 intro i o ho c hc
 unfold noDefer at h
 rw [Array.all_eq_true] at h
 obtain ⟨hi,e⟩:=Array.getElem?_eq_some_iff.1 ho
 have h1:=h i hi
 rw [e,hc] at h1
 cases h1
section
variable {P:Program} {ops:Array Oper} {Q:Exit→Act→World→Prop} {S:World→Prop}
theorem rg_z (z:Nat) {l n id:Nat} {a:Act} {w:World} (hm:P.follows .mixedOrders = true) (hd:noDefer ops = true) (hL:¬ LetsOut Q) (hS:S w.drew)
  (h:S w.drew→X.anyZ P .any ops Q S z ops.size (Array.replicate ops.size false) a w.drew):(Code.region id ops true).wpIn (Fence.wide.inRound l) n P Q a w :=
 region_round l n z hm (noDefer_spec hd) hL hS h
theorem rg_h {l n id:Nat} {a:Act} {w:World} (hm:P.follows .mixedOrders = true) (hd:noDefer ops = true) (hL:¬ LetsOut Q) (hS:S w.drew)
  (h:S w.drew→wpAnyH P .any ops Q S ops.size (Array.replicate ops.size false) a w.drew):(Code.region id ops true).wpIn (Fence.wide.inRound l) n P Q a w :=
 wpIn_region_draw fun t => ops_round (noDefer_spec hd) hL _ _ _ (by
  simp only [Region.schedule,hm,Bool.true_or,if_true]
  exact wpAny_sound ops.size t _ a _ (wpAny_of_held _ _ _ _ (h hS)))
end
theorem kx_fromT {T:Nat→Prop} {B:Nat} {W W':World} (k:KX T W W') (hg:∀ g,T g→∀ o,W.heap[g]? = some o→o.isCells = true):KeepsFrom B W W':=by
 refine ⟨k.size,fun i o _ ho hc => (k.block i (Array.getElem?_eq_some_iff.1 ho).1 (fun e => ?_)).trans ho⟩
 rw [hg i e o ho] at hc
 cases hc
theorem row_cells {W:World} {t:TypeId} {p:Nat} {xs:List Value} (h:RowL t W p xs):∀ o,W.heap[p]? = some o→o.isCells = true:=by
 intro o ho
 obtain ⟨c,h4,_⟩:=h
 rw [h4] at ho
 cases ho
 rfl
theorem sdx_cells {E:World→Bool→Value→Int→Prop} {B g n sc:Nat} {W:World} {zs:Nat→Int} (h:SdX E B W (some ⟨g,0,none⟩) n sc zs) (h0:0 < n):∀ o,W.heap[g]? = some o→o.isCells = true:=by
 intro o ho
 obtain ⟨g',xs,e,hw,_⟩:=h h0
 cases e
 obtain ⟨cur,fr,hb⟩:=own_block hw
 rw [hb] at ho
 cases ho
 rfl
theorem kx_putObj {W:World} {D:Nat} (o:Obj):KX (fun k => k = D) W (W.putObj D o):=⟨rfl,rfl,rfl,by simp,fun k _ hn => World.putObj_heap_other (fun e => hn (by rw [e]))⟩
theorem end_kx {W:World} {p4 p5 D:Nat} {a b v u:Value} {x:Option (List Deferred)} (o:Obj) (r4:RowL 23 W p4 [a]) (r5:RowL 28 W p5 [b]) (hD:W.heap[D]? = some (.deferred x)) :
  KX (fun k => k = p4 ∨ k = p5 ∨ k = D) W (((W.setCell ⟨p4,0,none⟩ v).setCell ⟨p5,0,none⟩ u).putObj D o)∧RowL 23 (((W.setCell ⟨p4,0,none⟩ v).setCell ⟨p5,0,none⟩ u).putObj D o) p4 [v]∧RowL 28 (((W.setCell ⟨p4,0,none⟩ v).setCell ⟨p5,0,none⟩ u).putObj D o) p5 [u] ∧
  (∀ t,t ≠ 23→t ≠ 28→Free t (fun k => k = p4 ∨ k = p5 ∨ k = D) W)∧((W.setCell ⟨p4,0,none⟩ v).setCell ⟨p5,0,none⟩ u).heap[D]? = some (.deferred x):=by
 have h4:∃ c f,W.heap[p4]? = some (.cells c 23 f):=by obtain ⟨c,h,_⟩:=r4; exact ⟨c,_,h⟩
 have h5:∃ c f,W.heap[p5]? = some (.cells c 28 f):=by obtain ⟨c,h,_⟩:=r5; exact ⟨c,_,h⟩
 have h45:p4 ≠ p5:=fun e => by
  obtain ⟨c,f,h⟩:=h4
  obtain ⟨c',f',h'⟩:=h5
  rw [e,h'] at h
  injection h with h
  injection h with _ h _
  exact absurd h (by decide)
 have h4D:p4 ≠ D:=fun e => by
  obtain ⟨c,f,h⟩:=h4
  rw [e,hD] at h
  cases h
 have h5D:p5 ≠ D:=fun e => by
  obtain ⟨c,f,h⟩:=h5
  rw [e,hD] at h
  cases h
 have q4:RowL 23 ((W.setCell ⟨p4,0,none⟩ v).setCell ⟨p5,0,none⟩ u) p4 [v]:=(r4.set 0 v).far h45 0 u
 have q5:RowL 28 ((W.setCell ⟨p4,0,none⟩ v).setCell ⟨p5,0,none⟩ u) p5 [u]:=(r5.far (fun e => h45 e.symm) 0 v).set 0 u
 refine ⟨?_,q4.block (World.putObj_heap_other h4D),q5.block (World.putObj_heap_other h5D),?_,?_⟩
 ·
  refine KX.then (T':=fun k => k = D) ?_ (kx_putObj o) (fun i hi => .inl (.inr (.inr hi)))
  exact ((KX.refl W).setCell (T:=fun k => k = p4 ∨ k = p5 ∨ k = D) (p:=⟨p4,0,none⟩) (.inl (.inl rfl)) v).setCell (p:=⟨p5,0,none⟩) (.inl (.inr (.inl rfl))) u
 ·
  intro t ht4 ht5 k hk cur fr e
  rcases hk with rfl | rfl | rfl
  ·
   obtain ⟨c,f,h⟩:=h4
   rw [h] at e
   injection e with e
   injection e with _ e _
   exact ht4 e.symm
  ·
   obtain ⟨c,f,h⟩:=h5
   rw [h] at e
   injection e with e
   injection e with _ e _
   exact ht5 e.symm
  ·
   rw [hD] at e
   cases e
 ·
  rw [Below.heap_setCell _ _ _ _ (fun e => h5D e.symm),Below.heap_setCell _ _ _ _ (fun e => h4D e.symm)]
  exact hD
theorem zn_row {B:Nat} {W:World} {s:Bool} {v:Value} {z:Int} {t:TypeId} {p:Nat} {xs:List Value} (h:ZN B W s v z) (r:RowL t W p xs) (ht:t ≠ 40) (x y:Value):ZN B ((W.setCell ⟨p,0,none⟩ x).setCell ⟨p,1,none⟩ y) s v z:=by
 refine h.kx (T:=fun k => k = p) (((KX.refl W).setCell (T:=fun k => k = p) (p:=⟨p,0,none⟩) (.inl rfl) x).setCell (p:=⟨p,1,none⟩) (.inl rfl) y) (fun k hk cur fr e => ?_)
 subst hk
 obtain ⟨c,h4,_⟩:=r
 rw [h4] at e
 injection e with e
 injection e with _ e _
 exact ht e
theorem RgO.nd {B r n:Nat} {mo:Option Nat} {w:World} {f:Nat→Int} {D:List Nat} (h:RgO B w r mo n f D):D.Nodup∧∀ k ∈ D,k < n:=by
 rcases h with ⟨_,_,_,rfl⟩ | ⟨b,_,h⟩
 ·
  exact ⟨List.nodup_nil,fun k hk => by cases hk⟩
 ·
  have hn:=h.num
  obtain ⟨_,es,clock,seen,_,_,_,_,_,h1,h2⟩:=h
  exact ⟨h1,fun k hk => hn.lt_n (h2 k hk)⟩
theorem rowl_free {W:World} {t t':TypeId} {p:Nat} {xs:List Value} (r:RowL t W p xs) (ht:t ≠ t'):Free t' (fun k => k = p) W:=by
 intro k hk cur fr e
 subst hk
 obtain ⟨c,h4,_⟩:=r
 rw [h4] at e
 injection e with e
 injection e with _ e _
 exact ht e
theorem RgO.far_row {B r n:Nat} {mo:Option Nat} {w:World} {f:Nat→Int} {D:List Nat} (h:RgO B w r mo n f D) {t:TypeId} {p:Nat} {xs:List Value} (hr:RowL t w p xs):¬ r = p:=fun e => by
 obtain ⟨c,h4,_⟩:=hr
 exact h.free t p e.symm _ _ h4
end Bp
end Go.Proofs.YtdcgdpbgnijnpaaGreat

namespace Go.Proofs.YtdcgdpbgnijnpaaGreat
open Go.RowKit
open V (RowL RowL.alloc RowL.lt RowL.cell RowL.fz RowL.kept)
open Sp (hid)
open Sy
open Bm (ZI ZI.kept ZI.of MxR ZsR mxr_at mxr_kept zsr_at zsr_kept cel_at mOk)
open Ba (stg lastP pivs wideZ facS Fits)
namespace Bp
end Bp
end Go.Proofs.YtdcgdpbgnijnpaaGreat
