/- A new list of whole numbers; what holds while back goes through the stages. shuntref12.SameInts of equal lists; limb.Add of whatever numbers; lists of one's own as arguments. Where the product of the rows' norms is within the limbs nothing is wide (pure). back. Solve, whole. Small numbers, rows and lists that literals make; what a list of whole numbers is. shuntlaw14.awake. shuntlaw14.BareissUnit: its walk. Rows of cells that grow in any order; a matrix of them. A matrix by what its cells say, wherever they lie (pure); rows of one's own as a matrix. Lists of numbers of the reference's, lists of such lists: what can be read; lists of one's own that grow. shuntref14.Take and Square: their walks. shuntref14.Narrow: its walk; the product of the rows' norms in whole numbers. -/
import Derived.Test.YtdcfammglpebaaaGreatGav
import Derived.Test.YtdcfammglpebaaaGreatGaw
import Derived.Test.YtdcfammglpebaaaGreatTr
import Derived.Laws.MakeOwn
import Derived.Test.YtdcfammglpebaaaGreatGad
import Derived.Test.YtdcfammglpebaaaGreatGaa
import Derived.Test.YtdcfammglpebaaaGreatGan
import Derived.Test.YtdcfammglpebaaaGreatGas
import Derived.Test.YtdcfammglpebaaaGreatGam
namespace Go.Proofs.YtdcfammglpebaaaGreat
open Go.RowKit Go.MapKept Go.Shelf
open V (RowL RowL.alloc RowL.lt RowL.cell RowL.fz RowL.kept RowL.set RowL.far RowL.block)
open Sp (hid)
open Ba (stg lastP pivs wideZ facS Fits)
open Bm (ZI ZI.kept)
namespace Bp
theorem made_at (z:Array Value) (n i:Nat) (hi:i < n):(madeCells z n).toList[i]? = some (z[i % z.size]!):=by
 unfold madeCells
 rw [Array.getElem?_toList,Array.getElem?_map,Array.getElem?_range]
 simp [hi]
theorem make_zs {n:Nat} (hn:n≤1000000) (u:World):∃ W,(Instr.makeSlice 23 (.int .i64 (n:Int)) (.int .i64 (n:Int))).run Tryz.prog u = .ok (.slice (some ⟨u.heap.size,0,none⟩) n n) W∧Kept u W∧W.heap.size = u.heap.size + 1∧SdX (EN u.heap.size) u.heap.size W (some ⟨u.heap.size,0,none⟩) n n (fun _ => 0):=by
 obtain ⟨i0,hi,hz0,hz1,hz2⟩:=info_parts info_z
 have h:=run_make (P:=Tryz.prog) u 23 37 i0 (.agg #[.bool false,.slice none 0 0]) und_zs hi hz0 .i64 .i64 (n:Int) (n:Int) (by omega) (Int.le_refl _) (by rw [hz2]; omega) (by omega)
 simp only [Int.toNat_natCast,hz1] at h
 refine ⟨_,h,(Kept.refl u).alloc _,by simp,fun h0 => ⟨u.heap.size,(madeCells (Value.agg #[.bool false,.slice none 0 0]).cells (n * 2)).toList,rfl,⟨by rw [Array.length_toList,size_madeCells],.inr ⟨u.heap.size,n,madeCells (Value.agg #[.bool false,.slice none 0 0]).cells (n * 2),rfl,Nat.le_refl _,heap_alloc_new u _,Nat.le_refl _,by unfold maxLen; omega,size_madeCells _ _,List.take_of_length_le (by rw [Array.length_toList,size_madeCells]; exact Nat.le_refl _)⟩⟩,fun j hj => ⟨false,none,0,0,?_,?_,[],⟨(fun _ h => by cases h),.inl ⟨rfl,rfl⟩⟩,⟨fun _ h => (by cases h),.inl rfl,by decide,fun _ => rfl⟩,rfl⟩⟩⟩
 ·
  rw [made_at _ _ _ (by omega),show (j * 2) % (Value.agg #[.bool false,.slice none 0 0]).cells.size = 0 from Nat.mul_mod_left j 2]
  rfl
 ·
  rw [made_at _ _ _ (by omega),show (j * 2 + 1) % (Value.agg #[.bool false,.slice none 0 0]).cells.size = 1 from by show (j * 2 + 1) % 2 = 1; omega]
  rfl
structure BkS (n:Nat) (w0 W:World) (B1:Nat) (p2 p3 p4 p5 p6 p7 fb:Nat) (uo:Option Addr) (uc:Nat) (xo:Option Addr) (xc:Nat) (s6:Bool) (o6:Option Addr) (k6 c6:Nat) (z:Int) (zs:Nat→Int):Prop where
 kept:Kept w0 W
 b2:RowL 27 W p2 [.pointer (some ⟨fb,0,none⟩)]
 b3:RowL 23 W p3 [.slice uo n uc]
 b4:RowL 23 W p4 [.slice none 0 0]
 b5:RowL 28 W p5 [.int .i64 0]
 b6:RowL 37 W p6 [.bool s6,.slice o6 k6 c6]
 b7:RowL 23 W p7 [.slice xo n xc]
 d:ZN w0.heap.size W s6 (.slice o6 k6 c6) z
 x:SdX (EN w0.heap.size) B1 W xo n xc zs
 far:p6 < B1∧w0.heap.size≤B1
section
variable {n:Nat} {w0 W W':World} {B1 p2 p3 p4 p5 p6 p7 fb:Nat} {uo:Option Addr} {uc:Nat} {xo:Option Addr} {xc:Nat} {s6:Bool} {o6:Option Addr} {k6 c6:Nat} {z:Int} {zs zs':Nat→Int}
theorem BkS.kx {T:Nat→Prop} (h:BkS n w0 W B1 p2 p3 p4 p5 p6 p7 fb uo uc xo xc s6 o6 k6 c6 z zs) (k:KX T W W') (hT:∀ t,Free t T W) (h0:∀ k,T k→w0.heap.size≤k):BkS n w0 W' B1 p2 p3 p4 p5 p6 p7 fb uo uc xo xc s6 o6 k6 c6 z zs :=
 ⟨KX.kept h.kept k h0,RowL_kx h.b2 k (hT _),RowL_kx h.b3 k (hT _),RowL_kx h.b4 k (hT _),RowL_kx h.b5 k (hT _),RowL_kx h.b6 k (hT _),RowL_kx h.b7 k (hT _),h.d.kx k (hT _),h.x.kx (EN.keeps _) k (hT _) (hT _),h.far⟩
theorem BkS.later (h:BkS n w0 W B1 p2 p3 p4 p5 p6 p7 fb uo uc xo xc s6 o6 k6 c6 z zs) (k:Kept W W'):BkS n w0 W' B1 p2 p3 p4 p5 p6 p7 fb uo uc xo xc s6 o6 k6 c6 z zs :=
 h.kx (T:=fun _ => False) (KX.of k) (fun _ _ h => h.elim) (fun _ h => h.elim)
theorem BkS.congr (h:BkS n w0 W B1 p2 p3 p4 p5 p6 p7 fb uo uc xo xc s6 o6 k6 c6 z zs) (e:∀ j,j < n→zs j = zs' j):BkS n w0 W B1 p2 p3 p4 p5 p6 p7 fb uo uc xo xc s6 o6 k6 c6 z zs' :=
 ⟨h.kept,h.b2,h.b3,h.b4,h.b5,h.b6,h.b7,h.d,h.x.congr e,h.far⟩
theorem BkS.own {B:Nat} (hB:w0.heap.size≤B) (f:List Nat→Nat→Int):OwnFrom B (fun (pre:List Nat) W => BkS n w0 W B1 p2 p3 p4 p5 p6 p7 fb uo uc xo xc s6 o6 k6 c6 z (f pre)):=by
 intro pre W W' row h hg hr
 refine h.kx (KX.grown hg) (fun t k hk cur fr e => ?_) (fun k hk => ?_)
 ·
  obtain ⟨_,o,ho,hc⟩:=hr k hk.symm
  rw [ho] at e
  cases e
  cases hc
 ·
  have:=(hr k hk.symm).1
  omega
theorem BkS.put {g j:Nat} {s:Bool} {ao:Option Addr} {k cap:Nat} {y:Int} (h:BkS n w0 W B1 p2 p3 p4 p5 p6 p7 fb uo uc (some ⟨g,0,none⟩) xc s6 o6 k6 c6 z zs) (hj:j < n) (hz:ZN w0.heap.size W s (.slice ao k cap) y) :
  BkS n w0 ((W.setCell ⟨g,j * 2,none⟩ (.bool s)).setCell ⟨g,j * 2 + 1,none⟩ (.slice ao k cap)) B1 p2 p3 p4 p5 p6 p7 fb uo uc (some ⟨g,0,none⟩) xc s6 o6 k6 c6 z (upd zs j y)∧KX (fun k => k = g) W ((W.setCell ⟨g,j * 2,none⟩ (.bool s)).setCell ⟨g,j * 2 + 1,none⟩ (.slice ao k cap)):=by
 obtain ⟨h1,kx⟩:=h.x.put (EN.keeps _) hj hz
 have hfr:∀ t,t ≠ 37→Free t (fun k => k = g) W:=fun t ht => h.x.free (by omega) ht
 obtain ⟨g',_,_,_,_,e,hg,_⟩:=h.x.at (j:=j) hj
 cases e
 have hf:=h.far
 refine ⟨⟨KX.kept h.kept kx (fun k hk => by rw [hk]; omega),RowL_kx h.b2 kx (hfr _ (by decide)),RowL_kx h.b3 kx (hfr _ (by decide)),RowL_kx h.b4 kx (hfr _ (by decide)),RowL_kx h.b5 kx (hfr _ (by decide)),World.rowIs.of_block h.b6 (kx.block p6 h.b6.lt (by omega)),RowL_kx h.b7 kx (hfr _ (by decide)),h.d.kx kx (hfr _ (by decide)),h1,h.far⟩,kx⟩
end
section
variable {n:Nat} {w0 W W':World} {p4 p5:Nat} {zs:Nat→Int}
theorem SdX.imp {E E':World→Bool→Value→Int→Prop} {B:Nat} {so:Option Addr} {sc:Nat} (h:SdX E B W so n sc zs) (hE:∀ s v z,E W s v z→E' W s v z):SdX E' B W so n sc zs:=fun h0 => by
 obtain ⟨g,xs,e,ho,hx⟩:=h h0
 refine ⟨g,xs,e,ho,fun j hj => ?_⟩
 obtain ⟨s,ao,k,cap,x1,x2,x3⟩:=hx j hj
 exact ⟨s,ao,k,cap,x1,x2,hE _ _ _ x3⟩
theorem SdX.mono2 {E:World→Bool→Value→Int→Prop} {B B':Nat} {so:Option Addr} {sc:Nat} (h:SdX E B W so n sc zs) (hB:B'≤B):SdX E B' W so n sc zs:=fun h0 => by
 obtain ⟨g,xs,e,ho,hx⟩:=h h0
 exact ⟨g,xs,e,⟨ho.1,ho.2.imp id fun ⟨g,cap,cur,e,hb,r⟩ => ⟨g,cap,cur,e,Nat.le_trans hB hb,r⟩⟩,hx⟩
structure BkE (w0 W:World) (p4 p5:Nat):Prop where
 kept:Kept w0 W
 b4:RowL 23 W p4 [.slice none 0 0]
 b5:RowL 28 W p5 [.int .i64 13]
theorem BkE.own {β:Type} {B:Nat} (hB:w0.heap.size≤B):OwnFrom B (fun (_:β) W => BkE w0 W p4 p5):=by
 intro pre W W' row h hg hr
 have hf:∀ t,Free t (fun k => some k = row) W:=fun t k hk cur fr e => by
  obtain ⟨_,o,ho,hc⟩:=hr k hk.symm
  rw [ho] at e
  cases e
  cases hc
 refine ⟨KX.kept h.kept (KX.grown hg) (fun k hk => ?_),RowL_kx h.b4 (KX.grown hg) (hf _),RowL_kx h.b5 (KX.grown hg) (hf _)⟩
 have:=(hr k hk.symm).1
 omega
theorem row_ownF {β:Type} {B:Nat} {t:TypeId} (q:Nat) (xs:List Value):OwnFrom B (fun (_:β) W => RowL t W q xs):=by
 intro _ W W' row h hg hr
 refine RowL_kx h (KX.grown hg) (fun k hk cur fr e => ?_)
 obtain ⟨_,o,ho,hc⟩:=hr k hk.symm
 rw [ho] at e
 cases e
 cases hc
theorem kx_from {g B:Nat} (k:KX (fun k => k = g) W W') (hg:∀ o,W.heap[g]? = some o→o.isCells = true):KeepsFrom B W W':=by
 refine ⟨k.size,fun i o _ ho hc => (k.block i (Array.getElem?_eq_some_iff.1 ho).1 (fun e => ?_)).trans ho⟩
 rw [e] at ho
 rw [hg o ho] at hc
 cases hc
theorem kx_keepB {g Bs:Nat} {so:Option Addr} (k:KX (fun k => k = g) W W') (h1:Bs < W.heap.size) (h2:Bs ≠ g) (h3:∀ i,so = some ⟨i,0,none⟩→i < W.heap.size∧i ≠ g):KeepB Bs so W W' :=
 ⟨k.block Bs h1 h2,fun i hi => k.block i (h3 i hi).1 (h3 i hi).2⟩
end
def noDefer (ops:Array Oper):Bool:=ops.all fun o => match o.op with
 | .defer _ => false
 | _ => true
theorem noDefer_spec {ops:Array Oper} (h:noDefer ops = true):∀ (i:Nat) (o:Oper),ops[i]? = some o→∀ c,o.op ≠ .defer c:=by
 intro i o ho c hc
 unfold noDefer at h
 rw [Array.all_eq_true] at h
 obtain ⟨hi,e⟩:=Array.getElem?_eq_some_iff.1 ho
 have h1:=h i hi
 rw [e,hc] at h1
 cases h1
section
variable {P:Program} {ops:Array Oper} {Q:Exit→Act→World→Prop} {S:World→Prop}
theorem rg_z (z:Nat) {l n id:Nat} {a:Act} {w:World} (hm:P.follows .mixedOrders = true) (hd:noDefer ops = true) (hL:¬ LetsOut Q) (hS:S w.drew)
  (h:S w.drew→X.anyZ P .any ops Q S z ops.size (Array.replicate ops.size false) a w.drew):(Code.region id ops true).wpIn (Fence.wide.inRound l) n P Q a w :=
 region_round l n z hm (noDefer_spec hd) hL hS h
theorem rg_h {l n id:Nat} {a:Act} {w:World} (hm:P.follows .mixedOrders = true) (hd:noDefer ops = true) (hL:¬ LetsOut Q) (hS:S w.drew)
  (h:S w.drew→wpAnyH P .any ops Q S ops.size (Array.replicate ops.size false) a w.drew):(Code.region id ops true).wpIn (Fence.wide.inRound l) n P Q a w :=
 wpIn_region_draw fun t => ops_round (noDefer_spec hd) hL _ _ _ (by
  simp only [Region.schedule,hm,Bool.true_or,if_true]
  exact wpAny_sound ops.size t _ a _ (wpAny_of_held _ _ _ _ (h hS)))
end
theorem kx_fromT {T:Nat→Prop} {B:Nat} {W W':World} (k:KX T W W') (hg:∀ g,T g→∀ o,W.heap[g]? = some o→o.isCells = true):KeepsFrom B W W':=by
 refine ⟨k.size,fun i o _ ho hc => (k.block i (Array.getElem?_eq_some_iff.1 ho).1 (fun e => ?_)).trans ho⟩
 rw [hg i e o ho] at hc
 cases hc
theorem row_cells {W:World} {t:TypeId} {p:Nat} {xs:List Value} (h:RowL t W p xs):∀ o,W.heap[p]? = some o→o.isCells = true:=by
 intro o ho
 obtain ⟨c,h4,_⟩:=h
 rw [h4] at ho
 cases ho
 rfl
theorem sdx_cells {E:World→Bool→Value→Int→Prop} {B g n sc:Nat} {W:World} {zs:Nat→Int} (h:SdX E B W (some ⟨g,0,none⟩) n sc zs) (h0:0 < n):∀ o,W.heap[g]? = some o→o.isCells = true:=by
 intro o ho
 obtain ⟨g',xs,e,hw,_⟩:=h h0
 cases e
 obtain ⟨cur,fr,hb⟩:=own_block hw
 rw [hb] at ho
 cases ho
 rfl
theorem kx_putObj {W:World} {D:Nat} (o:Obj):KX (fun k => k = D) W (W.putObj D o):=⟨rfl,rfl,rfl,by simp,fun k _ hn => World.putObj_heap_other (fun e => hn (by rw [e]))⟩
theorem end_kx {W:World} {p4 p5 D:Nat} {a b v u:Value} {x:Option (List Deferred)} (o:Obj) (r4:RowL 23 W p4 [a]) (r5:RowL 28 W p5 [b]) (hD:W.heap[D]? = some (.deferred x)) :
  KX (fun k => k = p4 ∨ k = p5 ∨ k = D) W (((W.setCell ⟨p4,0,none⟩ v).setCell ⟨p5,0,none⟩ u).putObj D o)∧RowL 23 (((W.setCell ⟨p4,0,none⟩ v).setCell ⟨p5,0,none⟩ u).putObj D o) p4 [v]∧RowL 28 (((W.setCell ⟨p4,0,none⟩ v).setCell ⟨p5,0,none⟩ u).putObj D o) p5 [u] ∧
  (∀ t,t ≠ 23→t ≠ 28→Free t (fun k => k = p4 ∨ k = p5 ∨ k = D) W)∧((W.setCell ⟨p4,0,none⟩ v).setCell ⟨p5,0,none⟩ u).heap[D]? = some (.deferred x):=by
 have h4:∃ c f,W.heap[p4]? = some (.cells c 23 f):=by obtain ⟨c,h,_⟩:=r4; exact ⟨c,_,h⟩
 have h5:∃ c f,W.heap[p5]? = some (.cells c 28 f):=by obtain ⟨c,h,_⟩:=r5; exact ⟨c,_,h⟩
 have h45:p4 ≠ p5:=fun e => by
  obtain ⟨c,f,h⟩:=h4
  obtain ⟨c',f',h'⟩:=h5
  rw [e,h'] at h
  injection h with h
  injection h with _ h _
  exact absurd h (by decide)
 have h4D:p4 ≠ D:=fun e => by
  obtain ⟨c,f,h⟩:=h4
  rw [e,hD] at h
  cases h
 have h5D:p5 ≠ D:=fun e => by
  obtain ⟨c,f,h⟩:=h5
  rw [e,hD] at h
  cases h
 have q4:RowL 23 ((W.setCell ⟨p4,0,none⟩ v).setCell ⟨p5,0,none⟩ u) p4 [v]:=(r4.set 0 v).far h45 0 u
 have q5:RowL 28 ((W.setCell ⟨p4,0,none⟩ v).setCell ⟨p5,0,none⟩ u) p5 [u]:=(r5.far (fun e => h45 e.symm) 0 v).set 0 u
 refine ⟨?_,q4.block (World.putObj_heap_other h4D),q5.block (World.putObj_heap_other h5D),?_,?_⟩
 ·
  refine KX.then (T':=fun k => k = D) ?_ (kx_putObj o) (fun i hi => .inl (.inr (.inr hi)))
  exact ((KX.refl W).setCell (T:=fun k => k = p4 ∨ k = p5 ∨ k = D) (p:=⟨p4,0,none⟩) (.inl (.inl rfl)) v).setCell (p:=⟨p5,0,none⟩) (.inl (.inr (.inl rfl))) u
 ·
  intro t ht4 ht5 k hk cur fr e
  rcases hk with rfl | rfl | rfl
  ·
   obtain ⟨c,f,h⟩:=h4
   rw [h] at e
   injection e with e
   injection e with _ e _
   exact ht4 e.symm
  ·
   obtain ⟨c,f,h⟩:=h5
   rw [h] at e
   injection e with e
   injection e with _ e _
   exact ht5 e.symm
  ·
   rw [hD] at e
   cases e
 ·
  rw [Below.heap_setCell _ _ _ _ (fun e => h5D e.symm),Below.heap_setCell _ _ _ _ (fun e => h4D e.symm)]
  exact hD
theorem zn_row {B:Nat} {W:World} {s:Bool} {v:Value} {z:Int} {t:TypeId} {p:Nat} {xs:List Value} (h:ZN B W s v z) (r:RowL t W p xs) (ht:t ≠ 40) (x y:Value):ZN B ((W.setCell ⟨p,0,none⟩ x).setCell ⟨p,1,none⟩ y) s v z:=by
 refine h.kx (T:=fun k => k = p) (((KX.refl W).setCell (T:=fun k => k = p) (p:=⟨p,0,none⟩) (.inl rfl) x).setCell (p:=⟨p,1,none⟩) (.inl rfl) y) (fun k hk cur fr e => ?_)
 subst hk
 obtain ⟨c,h4,_⟩:=r
 rw [h4] at e
 injection e with e
 injection e with _ e _
 exact ht e
theorem RgO.nd {B r n:Nat} {mo:Option Nat} {w:World} {f:Nat→Int} {D:List Nat} (h:RgO B w r mo n f D):D.Nodup∧∀ k ∈ D,k < n:=by
 rcases h with ⟨_,_,_,rfl⟩ | ⟨b,_,h⟩
 ·
  exact ⟨List.nodup_nil,fun k hk => by cases hk⟩
 ·
  have hn:=h.num
  obtain ⟨_,es,clock,seen,_,_,_,_,_,h1,h2⟩:=h
  exact ⟨h1,fun k hk => hn.lt_n (h2 k hk)⟩
theorem rowl_free {W:World} {t t':TypeId} {p:Nat} {xs:List Value} (r:RowL t W p xs) (ht:t ≠ t'):Free t' (fun k => k = p) W:=by
 intro k hk cur fr e
 subst hk
 obtain ⟨c,h4,_⟩:=r
 rw [h4] at e
 injection e with e
 injection e with _ e _
 exact ht e
theorem RgO.far_row {B r n:Nat} {mo:Option Nat} {w:World} {f:Nat→Int} {D:List Nat} (h:RgO B w r mo n f D) {t:TypeId} {p:Nat} {xs:List Value} (hr:RowL t w p xs):¬ r = p:=fun e => by
 obtain ⟨c,h4,_⟩:=hr
 exact h.free t p e.symm _ _ h4
end Bp
end Go.Proofs.YtdcfammglpebaaaGreat

namespace Go.Proofs.YtdcfammglpebaaaGreat
open Go.RowKit
open V (RowL RowL.alloc RowL.lt RowL.cell RowL.fz RowL.kept)
open Sp (hid)
open Sy
open Bm (ZI ZI.kept ZI.of MxR ZsR mxr_at mxr_kept zsr_at zsr_kept cel_at mOk)
open Ba (stg lastP pivs wideZ facS Fits)
namespace Bp
end Bp
end Go.Proofs.YtdcfammglpebaaaGreat

namespace Go.Proofs.YtdcfammglpebaaaGreat
open Ba (stg lastP pivs wideZ wideM facS Fits ext ext_stg prL norm1 norm2 leftR_iff leftC_iff)
namespace Bp
section
variable {n limbs:Nat} {M:Nat→Nat→Int} {b:Nat→Int} {ps:List (Nat × Nat)}
theorem Fits.pre (h:Fits n M ps) {qs ts:List (Nat × Nat)} (e:ps = qs ++ ts):Fits n M qs:=by
 subst e
 refine ⟨by have:=Ba.pivs_take h.piv qs.length; rw [List.take_left] at this; exact this,?_,?_,fun p hp => h.lt p (List.mem_append_left _ hp)⟩
 ·
  have:=h.rows
  rw [List.map_append,List.nodup_append] at this
  exact this.1
 ·
  have:=h.cols
  rw [List.map_append,List.nodup_append] at this
  exact this.1
end
end Bp
end Go.Proofs.YtdcfammglpebaaaGreat

namespace Go.Proofs.YtdcfammglpebaaaGreat
open Go.RowKit Go.MapKept Go.Shelf
open V (RowL RowL.alloc RowL.lt RowL.cell RowL.fz RowL.kept)
open Sp (hid)
open Ba (stg lastP pivs wideZ facS Fits)
open Bm (ZI ZI.kept)
attribute [local go_sem] Oper.semAt_some
namespace Bp
set_option maxRecDepth 100000 in
set_option maxHeartbeats 40000000 in
theorem back_any (B fb n limbs:Nat) (sa:Option Addr) (sc:Nat) (Ss:List StC) (M:Nat→Nat→Int) (b:Nat→Int) (ps:List (Nat × Nat)) (uo:Option Addr) (uc:Nat) (w:World) (h:FacR B w fb n limbs sa n sc Ss M ps) (hf:Fits n M ps) (hl:ps.length = n) (hs:facS n limbs M = (ps,0)) (hL:limbs≤32) (hn:n≤48) (hu:IL (sdF n M b ps) w (.slice uo n uc) n) (hW:∀ k,k≤n→sdW n limbs M b ps k = false) :
  Calls Tryz.prog 47 #[.pointer (some ⟨fb,0,none⟩),.slice uo n uc] w (BkIs w n limbs (bkA n M b ps)):=by
 obtain ⟨Q,hQ⟩:∃ Q,Q = BkIs w n limbs (bkA n M b ps):=⟨_,rfl⟩
 rw [← hQ]
 have HQ:=hid hQ
 clear hQ
 have HH:=hid (And.intro h hu)
 have HF:=hid (And.intro hf (And.intro hl (And.intro hs (And.intro hL hW))))
 have hne:lastP M ps ≠ 0:=Ba.last_ne hf.piv
 have HN:=hid hne
 have hmk:=hid (fun u => make_zs (n:=n) (by omega) u)
 clear h hu hf hl hs hL hW hne
 have r2:=RowL.alloc 27 w [.pointer (some ⟨fb,0,none⟩)]
 have r3:=RowL.alloc 23 (w.alloc (.cells #[.pointer (some ⟨fb,0,none⟩)] 27)) [.slice uo n uc]
 have r4:=RowL.alloc 23 ((w.alloc (.cells #[.pointer (some ⟨fb,0,none⟩)] 27)).alloc (.cells #[.slice uo n uc] 23)) [.slice none 0 0]
 have r5:=RowL.alloc 28 (((w.alloc (.cells #[.pointer (some ⟨fb,0,none⟩)] 27)).alloc (.cells #[.slice uo n uc] 23)).alloc (.cells #[.slice none 0 0] 23)) [.int .i64 0]
 have k2:=(Kept.refl w).alloc (.cells #[.pointer (some ⟨fb,0,none⟩)] 27)
 have k3:=(Kept.refl (w.alloc (.cells #[.pointer (some ⟨fb,0,none⟩)] 27))).alloc (.cells #[.slice uo n uc] 23)
 have k4:=(Kept.refl ((w.alloc (.cells #[.pointer (some ⟨fb,0,none⟩)] 27)).alloc (.cells #[.slice uo n uc] 23))).alloc (.cells #[.slice none 0 0] 23)
 have k5:=(Kept.refl (((w.alloc (.cells #[.pointer (some ⟨fb,0,none⟩)] 27)).alloc (.cells #[.slice uo n uc] 23)).alloc (.cells #[.slice none 0 0] 23))).alloc (.cells #[.int .i64 0] 28)
 refine (callsIn_wide (n:=6)).1 (callsIn_of_wp_marks Tryz.func47 rfl trivial (wpIn_wide.2 ?_) rfl)
 simp only [Tryz.ntmps47,List.size_toArray,List.length_cons,List.length_nil,Nat.reduceAdd,Nat.reduceSub,Array.replicate_succ,Array.replicate_zero,List.push_toArray,List.append_toArray,List.nil_append,List.cons_append]
 --%A
 go_upto_region 1 with fail
 have s2:=Sy.alloc_sz w (.cells #[.pointer (some ⟨fb,0,none⟩)] 27)
 have s3:=Sy.alloc_sz (w.alloc (.cells #[.pointer (some ⟨fb,0,none⟩)] 27)) (.cells #[.slice uo n uc] 23)
 have s4:=Sy.alloc_sz ((w.alloc (.cells #[.pointer (some ⟨fb,0,none⟩)] 27)).alloc (.cells #[.slice uo n uc] 23)) (.cells #[.slice none 0 0] 23)
 have s5:=Sy.alloc_sz (((w.alloc (.cells #[.pointer (some ⟨fb,0,none⟩)] 27)).alloc (.cells #[.slice uo n uc] 23)).alloc (.cells #[.slice none 0 0] 23)) (.cells #[.int .i64 0] 28)
 generalize w.alloc (.cells #[.pointer (some ⟨fb,0,none⟩)] 27) = w1 at r2 r3 r4 r5 k2 k3 k4 k5 s2 s3 s4 s5 ⊢
 generalize w1.alloc (.cells #[.slice uo n uc] 23) = w2 at r3 r4 r5 k3 k4 k5 s3 s4 s5 ⊢
 generalize w2.alloc (.cells #[.slice none 0 0] 23) = w3 at r4 r5 k4 k5 s4 s5 ⊢
 generalize w3.alloc (.cells #[.int .i64 0] 28) = w4 at r5 k5 s5 ⊢
 rw [s4,s3,s2] at r5
 rw [s3,s2] at r4
 rw [s2] at r3
 obtain ⟨p5,hp5⟩:∃ p,p = w.heap.size + 1 + 1 + 1:=⟨_,rfl⟩
 obtain ⟨p4,hp4⟩:∃ p,p = w.heap.size + 1 + 1:=⟨_,rfl⟩
 obtain ⟨p3,hp3⟩:∃ p,p = w.heap.size + 1:=⟨_,rfl⟩
 obtain ⟨p2,hp2⟩:∃ p,p = w.heap.size:=⟨_,rfl⟩
 rw [← hp5] at r5 ⊢
 rw [← hp4] at r4 ⊢
 rw [← hp3] at r3 ⊢
 rw [← hp2] at r2 ⊢
 have HP:=hid (show w.heap.size≤p2∧w.heap.size≤p3∧(w.heap.size≤p4∧p4 < w4.heap.size)∧(w.heap.size≤p5∧p5 < w4.heap.size)∧p4 ≠ p5 by omega)
 have k4:=k4.trans k5
 have k3:=k3.trans k4
 have HV:=hid (show ∀ V,Kept w4 V→RowL 27 V p2 [.pointer (some ⟨fb,0,none⟩)]∧RowL 23 V p3 [.slice uo n uc]∧RowL 23 V p4 [.slice none 0 0]∧RowL 28 V p5 [.int .i64 0]∧Kept w V from fun V K => ⟨r2.kept (k3.trans K),r3.kept (k4.trans K),r4.kept (k5.trans K),r5.kept K,(k2.trans k3).trans K⟩)
 clear r2 r3 r4 r5 k2 k3 k4 k5 s2 s3 s4 s5 hp2 hp3 hp4 hp5
 have c2:=(HV.out w4 (Kept.refl _)).1.cell 0 _
 --%B
 go_wp2_with fail
 refine (last_any B fb n limbs sa n sc Ss M ps w4 (HH.out.1.kept (HV.out w4 (Kept.refl _)).2.2.2.2) HN.out (by omega)).mono ?_
 rintro e w5 ⟨hk,s6,o6,k6,c6,rfl,hz⟩
 have kB:=hk.alloc (.cells #[.bool s6,.slice o6 k6 c6] 37)
 have rB:=RowL.alloc 37 w5 [.bool s6,.slice o6 k6 c6]
 have hz:=hz.kept ((Kept.refl w5).alloc (.cells #[.bool s6,.slice o6 k6 c6] 37))
 have s6z:=Sy.alloc_sz w5 (.cells #[.bool s6,.slice o6 k6 c6] 37)
 clear c2 hk
 go_upto_region 2 with fail
 generalize w5.alloc (.cells #[.bool s6,.slice o6 k6 c6] 37) = w6 at kB rB hz s6z ⊢
 obtain ⟨p6,hp6⟩:∃ p,p = w5.heap.size:=⟨_,rfl⟩
 rw [← hp6] at rB s6z ⊢
 clear hp6
 have c3:=(HV.out w6 kB).2.1.cell 0 _
 obtain ⟨w7,hm,k7,s7,hx⟩:=hmk.out w6
 have rC:=RowL.alloc 23 w7 [.slice (some ⟨w6.heap.size,0,none⟩) n n]
 have kC:=(Kept.refl w7).alloc (.cells #[.slice (some ⟨w6.heap.size,0,none⟩) n n] 23)
 have s8z:=Sy.alloc_sz w7 (.cells #[.slice (some ⟨w6.heap.size,0,none⟩) n n] 23)
 obtain ⟨xg,hxg⟩:∃ p,p = w6.heap.size:=⟨_,rfl⟩
 rw [← hxg] at rC kC hm hx s7
 obtain ⟨p7,hp7⟩:∃ p,p = w7.heap.size:=⟨_,rfl⟩
 have HS:=hid (And.intro s6z (And.intro s7 (And.intro s8z (And.intro hxg hp7))))
 clear hmk s6z s7 s8z hxg hp7
 --%C
 go_upto_region 3 with fail
 obtain ⟨s6z,s7,s8z,hxg,hp7⟩:=HS.out
 rw [← hxg] at s8z
 generalize w7.alloc (.cells #[.slice (some ⟨xg,0,none⟩) n n] 23) = w8 at rC kC s8z ⊢
 rw [← hp7] at rC s8z ⊢
 clear hm c3
 have k8:=k7.trans kC
 have H8:=hid (show BkS n w w8 xg p2 p3 p4 p5 p6 p7 fb uo uc (some ⟨xg,0,none⟩) n s6 o6 k6 c6 (lastP M ps) (fun _ => 0) from
  ⟨(HV.out _ (kB.trans k8)).2.2.2.2,(HV.out _ (kB.trans k8)).1,(HV.out _ (kB.trans k8)).2.1,(HV.out _ (kB.trans k8)).2.2.1,(HV.out _ (kB.trans k8)).2.2.2.1,rB.kept k8,rC,(hz.kept k8).mono (HV.out w4 (Kept.refl _)).2.2.2.2.size,(SdX.imp hx fun s v z h => ZN.mono h (by have:=(HV.out w6 kB).2.2.2.2.size; omega)).kept (EN.keeps _) kC,⟨by omega,by have:=(HV.out w6 kB).2.2.2.2.size; omega⟩⟩)
 have hxs:xg < w8.heap.size:=by omega
 have HX:=hid (And.intro hxs (show w.heap.size≤xg by have:=(HV.out w6 kB).2.2.2.2.size; omega))
 clear hz rB rC kC k7 k8 hx kB s6z s7 s8z hxg hp7 HS HV k3 k4 hxs
 have c2:=H8.out.b2.cell 0 _
 have c1:=(HH.out.1.kept H8.out.kept).box.cell 1 _
 --%D
 go_wp2_with fail
 refine (backward_any sa n sc w8).mono ?_
 rintro e w9 ⟨rfl,rfl⟩
 have k9:=(Kept.refl w8).alloc (.cells #[.slice sa n sc] 78)
 have rB:=RowL.alloc 78 w8 [.slice sa n sc]
 have s9z:=Sy.alloc_sz w8 (.cells #[.slice sa n sc] 78)
 obtain ⟨Bs,hBs⟩:∃ p,p = w8.heap.size:=⟨_,rfl⟩
 generalize w8.alloc (.cells #[.slice sa n sc] 78) = w9 at k9 rB s9z ⊢
 rw [← hBs] at rB s9z ⊢
 have H9:=hid (H8.out.later k9)
 have HBs:=hid (show xg < Bs∧w9.heap.size = Bs + 1 from ⟨by have:=HX.out.1; omega,s9z⟩)
 clear c1 c2 k9 hBs s9z
 --%E
 go_wp2_with fail
 obtain ⟨C,hC⟩:∃ C:Nat→StC,C = fun x => Ss.getD (clip n x) ⟨0,0,false,none,0,0,false,none,0,0,0,0⟩:=⟨_,rfl⟩
 have hCj:∀ j (hj:j < Ss.length),j < n→C j = Ss[j]:=fun j hj h => by rw [hC]; show Ss.getD (clip n j) _ = _; rw [clip_eq h,List.getD_eq_getElem?_getD,List.getElem?_eq_getElem hj]; rfl
 have hSl:Ss.length = n:=by rw [HH.out.1.sts.len,HF.out.2.1]
 have hstg:∀ V,Kept w V→StgC V sa n C:=fun V K h0 => by
  obtain ⟨g,e,h1,h2,_⟩:=(HH.out.1.kept K).at (j:=0) (by omega)
  refine ⟨g,e,h1,fun j hj i u hu => ?_⟩
  obtain ⟨g',e',_,_,h3⟩:=(HH.out.1.kept K).at (j:=j) (by omega)
  rw [e] at e'
  cases e'
  exact h3 i u (by rw [← hCj j (by omega) hj]; exact hu)
 have hCx:∀ x,C x = C (clip n x):=fun x => by rw [hC]; show Ss.getD (clip n x) _ = Ss.getD (clip n (clip n x)) _; rw [show clip n (clip n x) = clip n x by unfold clip; omega]
 have HC:=hid (And.intro hCj (And.intro hSl hCx))
 clear hCj hC hSl hCx
 have hsag2:∀ g,sa = some ⟨g,0,none⟩→g < w.heap.size:=fun g e => by
  rcases HH.out.1.sts.own.2 with ⟨e1,_⟩ | ⟨g',_,_,e1,_,h2,_⟩
  ·
   rw [e] at e1; cases e1
  ·
   rw [e] at e1; cases e1; exact (Array.getElem?_eq_some_iff.1 h2).1
 have hw9:w.heap.size≤w9.heap.size:=H9.out.kept.size
 have hstops:SeqStopsK Fence.wide (6 - 1) Tryz.prog 116 #[.pointer (some ⟨Bs,0,none⟩)] (fun x:Nat => #[.int .i64 (x:Int),(C x).v]) (KeepB Bs sa) (fun xs => xs = dn n n) (fun pre => ∃ k,k≤n∧pre = dn n k) n w9:=fun l J Jx W hW _ _ hY h0 =>
  back1_in (6 - 1) (by omega) l Bs n sc sa C J Jx (by omega) hY W ((Below.cell hW (p:=⟨Bs,0,none⟩) (by have:=HBs.out.2; simp; omega)).trans (rB.cell 0 _)) (hstg W (H9.out.kept.trans hW)) h0
 refine (wpIn_wide (n:=6)).1 ?_
 refine wpIn_rangeFunc_ownH rfl (by omega) (gf:=116) (lb:=#[.pointer (some ⟨Bs,0,none⟩)]) rfl trivial (enters_of Tryz.func116 (by kernel_rfl) rfl)
  hstops (fun h k => KeepB.trans h k) (fun W l o o' hl _ _ _ => ⟨World.putObj_heap_other (by have:=HBs.out.2; omega),fun g e => World.putObj_heap_other (by have:=hsag2 g e; omega)⟩) (Below.refl _ _) (fun _ => rfl)
  (fun pre W => BkS n w W xg p2 p3 p4 p5 p6 p7 fb uo uc (some ⟨xg,0,none⟩) n s6 o6 k6 c6 (lastP M ps) (bkX n M b ps (pre.map (clip n)))∧(∀ c,c < n→wideZ limbs (bkX n M b ps (pre.map (clip n)) c) = false)∧w9.heap.size≤W.heap.size)
  (fun c pre W => BkE w W p4 p5∧c = .ret∧∃ j,j < n∧wideZ limbs (bkX n M b ps (pre.map (clip n)) j) = true)
  (OwnFrom.and (BkS.own hw9 (fun pre => bkX n M b ps (pre.map (clip n)))) (OwnFrom.and (ownFrom_pure _ _) (fun _ _ _ _ hs hg _ => Nat.le_trans hs hg.size)))
  (fun c => OwnFrom.and (BkE.own hw9) (ownFrom_pure _ _))
  ⟨H9.out,fun c _ => wide_0 limbs,Nat.le_refl _⟩
  (fun x a' W => ∃ q,w9.heap.size≤q∧RowL 98 W q (C x).cells∧a' = { tmps:=#[.pointer (some ⟨fb,0,none⟩),.slice uo n uc,.pointer (some ⟨p2,0,none⟩),.pointer (some ⟨p3,0,none⟩),.pointer (some ⟨p4,0,none⟩),.pointer (some ⟨p5,0,none⟩),.pointer (some ⟨p6,0,none⟩),.pointer (some ⟨p7,0,none⟩),undef,.pointer (some ⟨q,0,none⟩),undef,undef,undef,.pointer (some ⟨fb,0,none⟩),.agg #[.bool s6,.slice o6 k6 c6],.slice uo n uc,.int .i64 (n:Int),.slice (some ⟨xg,0,none⟩) n n,.pointer (some ⟨fb,0,none⟩),.pointer (some ⟨fb,0,none⟩),.pointer (some ⟨fb,1,none⟩),.slice sa n sc,.func (.func 116) #[] #[.pointer (some ⟨Bs,0,none⟩)],.int .i64 (x:Int),(C x).v,undef,undef,undef,undef,undef,undef,undef,undef,undef,undef,undef,undef,undef,undef,undef,undef,undef,undef,undef,undef,undef,undef,undef,undef,undef,undef,undef,undef,undef,undef,undef,undef,undef,undef,undef,undef,undef,undef,undef,undef,undef,undef,undef],defers:=[] })
  (fun x a' _ X Y row hs hg hr => by obtain ⟨q,h1,h2,h3⟩:=hs; exact ⟨q,h1,row_ownF (β:=Unit) q (C x).cells () X Y row h2 hg hr,h3⟩)
  ?assign ?body ?done ?stop
 case assign =>
  rintro l pre x W K ⟨hI,hno,hsz⟩ hK
  --%F
  gi_wp2_with fail
  exact hK _ _ ((KeepsOthers.alloc _ _).from _) ⟨Below.heap_alloc _ _ _ (by have h1:=HBs.out; omega),fun g e => Below.heap_alloc _ _ _ (by have:=hsag2 g e; have h2:=hI.kept.size; omega)⟩ ⟨hI.later ((Kept.refl W).alloc _),hno,by simp; omega⟩ ⟨W.heap.size,hsz,RowL.alloc 98 W (C x).cells,rfl⟩
 case body =>
  rintro l pre x a' W hl ⟨rl,hrl⟩ ⟨hI,hno,hsz⟩ ⟨q,hq,bX,rfl⟩ hlt
  have h0:0 < n:=by omega
  obtain ⟨j,hj⟩:∃ j,j = clip n x:=⟨_,rfl⟩
  have hjn:j < n:=by rw [hj]; exact clip_lt h0
  have hjS:j < Ss.length:=by rw [HC.out.2.1]; exact hjn
  have hjP:j < ps.length:=by rw [HF.out.2.1]; exact hjn
  obtain ⟨S,hS⟩:∃ S,S = Ss[j]:=⟨_,rfl⟩
  have hCx:C x = S:=by rw [HC.out.2.2,← hj,HC.out.1 j hjS hjn,hS]
  rw [hCx] at bX ⊢
  generalize S.v = v24
  simp only [StC.cells] at bX
  obtain ⟨zs,hzs⟩:∃ f,f = bkX n M b ps (pre.map (clip n)):=⟨_,rfl⟩
  rw [← hzs] at hI hno
  have hst:=(HH.out.1.kept hI.kept).sts.st j hjS hjP
  rw [← hS] at hst
  have SN:StN n M b ps j S.r S.c:=by rw [hst.er,hst.ec]; exact StN.of HF.out.1 HF.out.2.1 HF.out.2.2.1 HF.out.2.2.2.1 (HF.out.2.2.2.2 n (Nat.le_refl n)) hjP
  have hza:NumM B W S.ba n (acr n M ps j):=hst.za.congr fun k => by unfold acr; rw [getD_at hjP]
  have hzp:ZN B W S.s1 (.slice S.o1 S.k1 S.c1) (stg M (ps.take j) S.r S.c):=by rw [hst.er,hst.ec]; exact hst.zp
  have hX32:∀ k,k < n→(zs k).natAbs < W32:=fun k hk => not_wide_32 HF.out.2.2.2.1 (hno k hk)
  have hnx9:bkX n M b ps ((pre ++ [x]).map (clip n)) = upd zs S.c (quo0 (lastP M ps * sdF n M b ps S.r - msum n (acr n M ps j) zs) (stg M (ps.take j) S.r S.c)):=by
   rw [List.map_append,List.map_cons,List.map_nil,← hj,bkX_snoc,← hzs]
   unfold bkS
   rw [SN.er]
  obtain ⟨_,_,e,hu⟩:=il_kept HH.out.2 hI.kept
  cases e
  obtain ⟨ug,uoff,rfl,hug,hu⟩:=hu h0
  obtain ⟨s8,o8,k8,c8,u1,u2,hz8⟩:=hu S.r SN.hr
  have HB:=hid (And.intro hI (And.intro hno (And.intro hsz (And.intro hq (And.intro bX (And.intro SN (And.intro hza (And.intro hzp (And.intro hX32 hnx9)))))))))
  have HU:=hid (And.intro hug (And.intro u1 (And.intro u2 hz8)))
  have i1:(0:Int)≤(S.r:Int):=by omega
  have i2:(S.r:Int) < (n:Int):=by have:=SN.hr; omega
  have HLt:=hid (And.intro hjn h0)
  clear hjS hjP hS hCx hst hza hzp hX32 hnx9 hu hug u1 u2 hz8 SN hI hno hsz hq bX hzs hj hjn h0 hlt hl hrl
  --%J
  gi_wp2_with fail
  rename_i K5 hK5
  have HR:∀ (p10:Nat) (V:World) (s:Bool) (o:Option Addr) (k c:Nat) (v25 v26 v27 v28 v29 v30 v31:Value),Kept W V→W.heap.size≤p10→RowL 37 V p10 [.bool s,.slice o k c]→ZN W.heap.size V s (.slice o k c) (lastP M ps * sdF n M b ps S.r)→K5 { tmps:=#[.pointer (some ⟨fb,0,none⟩),.slice (some ⟨ug,uoff,none⟩) n uc,.pointer (some ⟨p2,0,none⟩),.pointer (some ⟨p3,0,none⟩),.pointer (some ⟨p4,0,none⟩),.pointer (some ⟨p5,0,none⟩),.pointer (some ⟨p6,0,none⟩),.pointer (some ⟨p7,0,none⟩),undef,.pointer (some ⟨q,0,none⟩),.pointer (some ⟨p10,0,none⟩),undef,undef,.pointer (some ⟨fb,0,none⟩),.agg #[.bool s6,.slice o6 k6 c6],.slice (some ⟨ug,uoff,none⟩) n uc,.int .i64 (n:Int),.slice (some ⟨xg,0,none⟩) n n,.pointer (some ⟨fb,0,none⟩),.pointer (some ⟨fb,0,none⟩),.pointer (some ⟨fb,1,none⟩),.slice sa n sc,.func (.func 116) #[] #[.pointer (some ⟨Bs,0,none⟩)],.int .i64 (x:Int),v24,v25,v26,v27,v28,v29,v30,v31,undef,undef,undef,undef,undef,undef,undef,undef,undef,undef,undef,undef,undef,undef,undef,undef,undef,undef,undef,undef,undef,undef,undef,undef,undef,undef,undef,undef,undef,undef,undef,undef,undef,undef,undef,undef],defers:=[] } V:=by
   intro p10 V s o k c v25 v26 v27 v28 v29 v30 v31 K1 hp10 r10 hz
   refine hK5 _ _ ?_
   clear hK5
   --%K
   have HB2:=hid (And.intro (HB.out.1.later K1) (And.intro (HB.out.2.2.2.2.1.kept K1) (And.intro K1 (And.intro hp10 (And.intro r10 hz)))))
   have q6:=HB2.out.2.1.cell 6 _ rfl
   obtain ⟨ob,hrun,hR⟩:=rangeM (.inr ⟨S.ba,rfl,HB.out.2.2.2.2.2.2.1.kept K1⟩:RowM B V (.map (some S.ba)) n (acr n M ps j))
   have kR:=(Kept.refl V).alloc ob
   clear K1 hp10 r10 hz
   gi_wp2_with fail
   obtain ⟨r,hr⟩:∃ r,r = V.heap.size:=⟨_,rfl⟩
   rw [← hr] at hR ⊢
   generalize V.alloc ob = V1 at hR kR ⊢
   have HR2:=hid (And.intro hR (And.intro kR (show W.heap.size≤r by have:=HB2.out.2.2.1.size; omega)))
   clear hrun hr q6 hR kR
   --%N
   gi_loopg [35] n (fun gg _ wr => ∃ (D:List Nat) (s:Bool) (o:Option Addr) (k c:Nat),Hid (Kept W wr∧RowL 37 wr p10 [.bool s,.slice o k c]∧ZN W.heap.size wr s (.slice o k c) (rsD n M b ps zs j S.r D)∧RgO B wr r (some S.ba) n (acr n M ps j) D∧n - D.length≤gg))
   case atStart => exact ⟨[],s,o,k,c,HB2.out.2.2.1.trans HR2.out.2.1,HB2.out.2.2.2.2.1.kept HR2.out.2.1,by unfold rsD; rw [List.map_nil,List.sum_nil,Int.sub_zero]; exact HB2.out.2.2.2.2.2.kept HR2.out.2.1,HR2.out.1,by simp⟩
   case round =>
    obtain ⟨D,s,o,k,c,H⟩:=hrel
    rcases nextM H.out.2.2.2.1 with ⟨hD,hnx⟩ | ⟨key,v,y1,g1,g2,g3,g4,g5,g6,g7,hnx,hen⟩
    ·
     have hnx:=hnx 0
     have HD:=hid hD
     clear hD
     --%O
     gi_wp2_with fail
     --%P
     have hnd:=H.out.2.2.2.1.nd
     obtain ⟨zz,hzz⟩:∃ z,z = lastP M ps * sdF n M b ps S.r - msum n (acr n M ps j) zs:=⟨_,rfl⟩
     have hz:ZN W.heap.size wr s (.slice o k c) zz:=by rw [hzz,← rsD_done (r:=S.r) hnd.1 hnd.2 HD.out]; exact H.out.2.2.1
     obtain ⟨pv,hpv⟩:∃ z,z = stg M (ps.take j) S.r S.c:=⟨_,rfl⟩
     have hpz:=HB.out.2.2.2.2.2.1.piv
     have hzp:=HB.out.2.2.2.2.2.2.2.1
     rw [← hpv] at hpz hzp
     obtain ⟨y,hy⟩:∃ z,z = quo0 zz pv:=⟨_,rfl⟩
     have hq0:y * pv = zz ∨ (¬ pv ∣ zz∧y = 0):=by rw [hy]; exact quo0_is
     have HY:=hid (show y = quo0 (lastP M ps * sdF n M b ps S.r - msum n (acr n M ps j) zs) (stg M (ps.take j) S.r S.c) by rw [hy,hzz,hpv])
     have hc10:=hid (fun (V:World) (K:Kept wr V) => over0_any s S.s1 o S.o1 k c S.k1 S.c1 zz pv y V (hz.zi.kept K) ((hzp.kept (H.out.1.trans K)).zi) hpz hq0)
     obtain ⟨g',t1,t2,t3,t4,e,hgl,x1,x2,_,hfz⟩:=(HB.out.1.later H.out.1).x.at HB.out.2.2.2.2.2.1.hc
     cases e
     have HX1:=hid (And.intro hgl hfz)
     have sS:=hid (fun (V:World) (K:Kept wr V) => show (fun w':World => w'.cell? ⟨p7,0,none⟩ = some (.slice (some ⟨xg,0,none⟩) n n)∧w'.cell? ⟨q,1,none⟩ = some (.int .i64 (S.c:Int))∧w'.cell? ⟨p10,0,none⟩ = some (.bool s)∧w'.cell? ⟨p10,1,none⟩ = some (.slice o k c)∧w'.cell? ⟨q,2,none⟩ = some (.bool S.s1)∧w'.cell? ⟨q,3,none⟩ = some (.slice S.o1 S.k1 S.c1)∧w'.cell? ⟨xg,S.c * 2,none⟩ = some (.bool t1)∧w'.cell? ⟨xg,S.c * 2 + 1,none⟩ = some (.slice t2 t3 t4)) V from ⟨((HB.out.1.later H.out.1).later K).b7.cell 0 _,((HB.out.2.2.2.2.1.kept H.out.1).kept K).cell 1 _ rfl,(H.out.2.1.kept K).cell 0 _ rfl,(H.out.2.1.kept K).cell 1 _ rfl,((HB.out.2.2.2.2.1.kept H.out.1).kept K).cell 2 _ rfl,((HB.out.2.2.2.2.1.kept H.out.1).kept K).cell 3 _ rfl,(K.cell (p:=⟨xg,S.c * 2,none⟩) hgl.2).trans x1,(K.cell (p:=⟨xg,S.c * 2 + 1,none⟩) hgl.2).trans x2⟩)
     have i3:(0:Int)≤(S.c:Int):=by omega
     have i4:(S.c:Int) < (n:Int):=by have:=HB.out.2.2.2.2.2.1.hc; omega
     clear hnd hzz hz hpv hpz hzp hy hq0 hgl x1 x2 hfz hnx
     have KT:Kept wr wr.drew:=(Kept.refl _).drew
     refine rg_z 8 (S:=fun w' => w'.cell? ⟨p7,0,none⟩ = some (.slice (some ⟨xg,0,none⟩) n n)∧w'.cell? ⟨q,1,none⟩ = some (.int .i64 (S.c:Int))∧w'.cell? ⟨p10,0,none⟩ = some (.bool s)∧w'.cell? ⟨p10,1,none⟩ = some (.slice o k c)∧w'.cell? ⟨q,2,none⟩ = some (.bool S.s1)∧w'.cell? ⟨q,3,none⟩ = some (.slice S.o1 S.k1 S.c1)∧w'.cell? ⟨xg,S.c * 2,none⟩ = some (.bool t1)∧w'.cell? ⟨xg,S.c * 2 + 1,none⟩ = some (.slice t2 t3 t4)) (by kernel_rfl) (by kernel_rfl) (by rintro ⟨a,w,h⟩; exact h) (sS.out _ KT) (fun hHeld => ?_)
     generalize wr.drew = Wd at KT hHeld ⊢
     refine X.zk 0 hHeld ?_
     refine X.zk 1 hHeld ?_
     refine X.zk 2 hHeld ?_
     refine X.zk 3 hHeld ?_
     refine X.zk 4 hHeld ?_
     refine X.zk 5 hHeld ?_
     refine X.zr 6 fun K hK => ?_
     go_simp
     refine (hc10.out Wd KT).mono ?_
     rintro e v5 ⟨hk,s5,o5,k5,c5,rfl,hz5⟩
     refine hK.out _ _ (sS.out _ (KT.trans hk)) (fun hHeld => ?_)
     clear hK K
     have K5:=KT.trans hk
     have hz5:=hz5.mono (show w.heap.size≤Wd.heap.size from Nat.le_trans HB.out.1.kept.size (Nat.le_trans H.out.1.size KT.size))
     have f1:v5.frozen? ⟨xg,S.c * 2,none⟩ = false:=(K5.frozens xg (S.c * 2) HX1.out.1.2).trans (HX1.out.2 _)
     have f2:v5.frozen? ⟨xg,S.c * 2 + 1,none⟩ = false:=(K5.frozens xg (S.c * 2 + 1) HX1.out.1.2).trans (HX1.out.2 _)
     refine X.zr 7 fun K hK => ?_
     go_simp
     refine hK.out _ _ hHeld (fun hHeld => ?_)
     clear hK K
     have h9:=hHeld.2.2.2.2.2.2.1
     have h10:=hHeld.2.2.2.2.2.2.2
     refine X.zl fun K hK => ?_
     go_simp
     refine hK.out _ _ ?_
     clear hK K hHeld h9 h10
     refine X.zd ?_
     have KW5:=H.out.1.trans K5
     obtain ⟨hput,kx⟩:=(HB.out.1.later KW5).put HB.out.2.2.2.2.2.1.hc hz5
     have hq6:=RowL_kx (HB.out.2.2.2.2.1.kept KW5) kx ((HB.out.1.later KW5).x.free HLt.out.2 (by decide))
     generalize (v5.setCell ⟨xg,S.c * 2,none⟩ (.bool s5)).setCell ⟨xg,S.c * 2 + 1,none⟩ (.slice o5 k5 c5) = v6 at hput kx hq6 ⊢
     have H6:=hid (And.intro hput (And.intro (show KX (fun k => k = xg) W v6 from (KX.of KW5).trans kx) hq6))
     clear f1 f2 hz5 hk K5 KT hput kx hq6 KW5 sS hc10 HX1
     --%S
     gi_wp2_with fail
     obtain ⟨g',t1,t2,t3,t4,e,hgl,x1,x2,x3,hfz⟩:=H6.out.1.x.at HB.out.2.2.2.2.2.1.hc
     cases e
     have hyy:upd zs S.c y S.c = y:=by unfold upd; rw [if_pos rfl]
     rw [hyy] at x3
     have HX6:=hid x3.zi
     have hfb:=(HH.out.1.kept H6.out.1.kept).box
     have sS:=hid (fun (V:World) (K:Kept v6 V) => show (fun w':World => w'.cell? ⟨p7,0,none⟩ = some (.slice (some ⟨xg,0,none⟩) n n)∧w'.cell? ⟨q,1,none⟩ = some (.int .i64 (S.c:Int))∧w'.cell? ⟨xg,S.c * 2,none⟩ = some (.bool t1)∧w'.cell? ⟨xg,S.c * 2 + 1,none⟩ = some (.slice t2 t3 t4)∧w'.cell? ⟨p2,0,none⟩ = some (.pointer (some ⟨fb,0,none⟩))∧w'.cell? ⟨fb,0,none⟩ = some (.int .i64 (limbs:Int))) V from ⟨(H6.out.1.later K).b7.cell 0 _,(H6.out.2.2.kept K).cell 1 _ rfl,(K.cell (p:=⟨xg,S.c * 2,none⟩) hgl.2).trans x1,(K.cell (p:=⟨xg,S.c * 2 + 1,none⟩) hgl.2).trans x2,(H6.out.1.later K).b2.cell 0 _,(hfb.kept K).cell 0 _ rfl⟩)
     clear hgl x1 x2 x3 hfz hyy hfb
     have KT:Kept v6 v6.drew:=(Kept.refl _).drew
     obtain ⟨bw,hbw⟩:∃ x,x = wideZ limbs y:=⟨_,rfl⟩
     have HBw:=hid hbw
     clear hbw
     cases bw with
     | true =>
      have hF11:=hid (fun (V:World) (K:Kept v6 V) => fits_zi t1 t2 t3 t4 y limbs V (HX6.out.kept K))
      refine rg_h (S:=fun w' => w'.cell? ⟨p7,0,none⟩ = some (.slice (some ⟨xg,0,none⟩) n n)∧w'.cell? ⟨q,1,none⟩ = some (.int .i64 (S.c:Int))∧w'.cell? ⟨xg,S.c * 2,none⟩ = some (.bool t1)∧w'.cell? ⟨xg,S.c * 2 + 1,none⟩ = some (.slice t2 t3 t4)∧w'.cell? ⟨p2,0,none⟩ = some (.pointer (some ⟨fb,0,none⟩))∧w'.cell? ⟨fb,0,none⟩ = some (.int .i64 (limbs:Int))) (by kernel_rfl) (by kernel_rfl) (by rintro ⟨a,w,h⟩; exact h) (sS.out _ KT) (fun hHeld => ?_)
      generalize v6.drew = Wd at KT hHeld ⊢
      refine wk 0 hHeld ?_
      refine wk 1 hHeld ?_
      refine wk 2 hHeld ?_
      refine wk 3 hHeld ?_
      refine wk 4 hHeld ?_
      refine wk 5 hHeld ?_
      refine wk 6 hHeld ?_
      refine wk 7 hHeld ?_
      refine wk 8 hHeld ?_
      refine rdy 9 fun K hK => ?_
      go_simp
      refine (hF11.out Wd KT).mono ?_
      rintro e v7 ⟨rfl,hk⟩
      rw [← HBw.out]
      refine hK.out _ _ (sS.out _ (KT.trans hk)) (fun hHeld => ?_)
      clear hK K
      have K7:=KT.trans hk
      refine wk 10 hHeld ?_
      refine _root_.Go.Proofs.YtdcfammglpebaaaGreat.dn ?_
      clear hHeld
      have HK7:=hid (And.intro (H6.out.1.later K7) K7)
      have HB7:=hid (And.intro (HK7.out.1.b4.cell 0 _ rfl) (HK7.out.1.b5.cell 0 _ rfl))
      have d4:=HK7.out.1.b4.cell 0 _ rfl
      have d5:=HK7.out.1.b5.cell 0 _ rfl
      have f4:=HK7.out.1.b4.fz 0
      have f5:=HK7.out.1.b5.fz 0
      have h45:=HP.out.2.2.2.2
      have h54:p5 ≠ p4:=fun e => h45 e.symm
      clear K7 hk KT HB7
      --%U
      gi_wp2_with fail
      have hI7:=HK7.out.1
      have q4:RowL 23 ((v7.setCell ⟨p4,0,none⟩ (.slice none 0 0)).setCell ⟨p5,0,none⟩ (.int .i64 13)) p4 [.slice none 0 0]:=(RowL.set hI7.b4 0 (.slice none 0 0)).far h45 0 (.int .i64 13)
      have q5:RowL 28 ((v7.setCell ⟨p4,0,none⟩ (.slice none 0 0)).setCell ⟨p5,0,none⟩ (.int .i64 13)) p5 [.int .i64 13]:=(RowL.far hI7.b5 h54 0 (.slice none 0 0)).set 0 (.int .i64 13)
      have kx:KX (fun k => k = xg ∨ k = p4 ∨ k = p5) W ((v7.setCell ⟨p4,0,none⟩ (.slice none 0 0)).setCell ⟨p5,0,none⟩ (.int .i64 13)):=(((H6.out.2.1.mono (fun i hi => .inl hi)).trans (KX.of HK7.out.2)).setCell (p:=⟨p4,0,none⟩) (.inl (.inr (.inl rfl))) _).setCell (p:=⟨p5,0,none⟩) (.inl (.inr (.inr rfl))) _
      refine ⟨kx_fromT kx (fun g hg => ?_),⟨KX.kept HB.out.1.kept kx (fun g hg => ?_),q4,q5⟩,rfl,S.c,HB.out.2.2.2.2.2.1.hc,?_⟩
      ·
       rcases hg with rfl | rfl | rfl
       ·
        exact sdx_cells HB.out.1.x HLt.out.2
       ·
        exact row_cells HB.out.1.b4
       ·
        exact row_cells HB.out.1.b5
      ·
       have h1:=HX.out.2
       have h2:=HP.out
       rcases hg with rfl | rfl | rfl <;> omega
      ·
       rw [HB.out.2.2.2.2.2.2.2.2.2]
       unfold upd
       rw [if_pos rfl,← HY.out]
       exact HBw.out.symm
     | false =>
      have hF11:=hid (fun (V:World) (K:Kept v6 V) => fits_zi t1 t2 t3 t4 y limbs V (HX6.out.kept K))
      refine rg_h (S:=fun w' => w'.cell? ⟨p7,0,none⟩ = some (.slice (some ⟨xg,0,none⟩) n n)∧w'.cell? ⟨q,1,none⟩ = some (.int .i64 (S.c:Int))∧w'.cell? ⟨xg,S.c * 2,none⟩ = some (.bool t1)∧w'.cell? ⟨xg,S.c * 2 + 1,none⟩ = some (.slice t2 t3 t4)∧w'.cell? ⟨p2,0,none⟩ = some (.pointer (some ⟨fb,0,none⟩))∧w'.cell? ⟨fb,0,none⟩ = some (.int .i64 (limbs:Int))) (by kernel_rfl) (by kernel_rfl) (by rintro ⟨a,w,h⟩; exact h) (sS.out _ KT) (fun hHeld => ?_)
      generalize v6.drew = Wd at KT hHeld ⊢
      refine wk 0 hHeld ?_
      refine wk 1 hHeld ?_
      refine wk 2 hHeld ?_
      refine wk 3 hHeld ?_
      refine wk 4 hHeld ?_
      refine wk 5 hHeld ?_
      refine wk 6 hHeld ?_
      refine wk 7 hHeld ?_
      refine wk 8 hHeld ?_
      refine rdy 9 fun K hK => ?_
      go_simp
      refine (hF11.out Wd KT).mono ?_
      rintro e v7 ⟨rfl,hk⟩
      rw [← HBw.out]
      refine hK.out _ _ (sS.out _ (KT.trans hk)) (fun hHeld => ?_)
      clear hK K
      have K7:=KT.trans hk
      refine wk 10 hHeld ?_
      refine _root_.Go.Proofs.YtdcfammglpebaaaGreat.dn ?_
      clear hHeld
      have HK7:=hid (And.intro (H6.out.1.later K7) K7)
      have HB7:=hid (And.intro (HK7.out.1.b4.cell 0 _ rfl) (HK7.out.1.b5.cell 0 _ rfl))
      clear K7 hk KT HB7
      --%W
      gi_wp2_with fail
      have kx:KX (fun k => k = xg) W v7:=H6.out.2.1.trans (KX.of HK7.out.2)
      have hzb:=HB.out.2.2.1
      have hbs:=HBs.out
      refine ⟨kx_from kx (sdx_cells HB.out.1.x HLt.out.2),kx_keepB kx (by omega) (by omega) (fun i hi => ?_),?_,?_,?_⟩
      ·
       have h1:=hsag2 i hi
       have h2:=HB.out.1.kept.size
       have h3:=HX.out.2
       omega
      ·
       rw [HB.out.2.2.2.2.2.2.2.2.2,← HY.out]
       exact HK7.out.1
      ·
       intro i hi
       rw [HB.out.2.2.2.2.2.2.2.2.2,← HY.out]
       unfold upd
       by_cases e:i = S.c
       ·
        rw [if_pos e]; exact HBw.out.symm
       ·
        rw [if_neg e]; exact HB.out.2.1 i hi
      ·
       have:=kx.size
       omega
    ·
     have hnx:=hnx 0
     --%Q
     obtain ⟨e1,e2,e3,e4,rfl,hzv,_⟩:=g4.zn
     have KW1:Kept W y1:=KX.kept H.out.1 g6 (fun i hi => by rw [hi]; exact HR2.out.2.2)
     have hf10:=H.out.2.2.2.1.free
     have r10':=RowL_kx H.out.2.1 g6 (hf10 _)
     have hz10:=H.out.2.2.1.kx g6 (hf10 _)
     have hlen:=g5.len
     have hnd:=g5.nd
     have r12:=RowL.alloc 37 y1 [.bool e1,.slice e2 e3 e4]
     have k12:=(Kept.refl y1).alloc (.cells #[.bool e1,.slice e2 e3 e4] 37)
     have HG:=hid (And.intro g3 (And.intro KW1 (And.intro r10' (And.intro hz10 (And.intro g5 (And.intro hlen (And.intro hnd hzv)))))))
     clear g1 g2 g3 g4 g5 g6 g7 hf10 r10' hz10 hlen hnd hzv KW1
     gi_wp2_with fail
     obtain ⟨p12,hp12⟩:∃ p,p = y1.heap.size:=⟨_,rfl⟩
     rw [← hp12] at r12 ⊢
     generalize y1.alloc (.cells #[.bool e1,.slice e2 e3 e4] 37) = y2 at r12 k12 ⊢
     have HG2:=hid (And.intro r12 k12)
     clear r12 k12 hp12 hnx hen
     obtain ⟨g',t1,t2,t3,t4,e,hgl,x1,x2,x3,hfz⟩:=(HB.out.1.later (HG.out.2.1.trans HG2.out.2)).x.at HG.out.1
     cases e
     have i3:(0:Int)≤(key:Int):=by omega
     have i4:(key:Int) < (n:Int):=by have:=HG.out.1; omega
     have hal:(acr n M ps j key * zs key).natAbs < _root_.Go.Proofs.YtdcfammglpebaaaGreat.M.W72:=mul_lim (HB.out.2.2.2.2.2.1.acr key) (HB.out.2.2.2.2.2.2.2.2.1 key HG.out.1)
     have hrl:(rsD n M b ps zs j S.r D - acr n M ps j key * zs key).natAbs < _root_.Go.Proofs.YtdcfammglpebaaaGreat.M.W72:=by rw [← rsD_cons]; exact rsD_lim HB.out.2.2.2.2.2.1 HB.out.2.2.2.2.2.2.2.2.1 HG.out.2.2.2.2.2.2.1.2 (by have:=HG.out.2.2.2.2.2.1; omega)
     have hc1:=hid (fun (V:World) (K:Kept y2 V) => times_any e1 t1 e2 t2 e3 e4 t3 t4 _ _ V (((HG.out.2.2.2.2.2.2.2.kept HG2.out.2).kept K).zi) (x3.zi.kept K) hal)
     have hc2:=hid (fun (s9:Bool) (o9:Option Addr) (k9 c9:Nat) (V:World) (K:Kept y2 V) (hzz:ZI V s9 (.slice o9 k9 c9) (acr n M ps j key * zs key)) => minus_any s s9 o o9 k c k9 c9 _ _ V (((HG.out.2.2.2.1.kept HG2.out.2).kept K).zi) hzz hrl)
     have sS:=hid (fun (V:World) (K:Kept y2 V) => show (fun w':World => w'.cell? ⟨p10,0,none⟩ = some (.bool s)∧w'.cell? ⟨p10,1,none⟩ = some (.slice o k c)∧w'.cell? ⟨p12,0,none⟩ = some (.bool e1)∧w'.cell? ⟨p12,1,none⟩ = some (.slice e2 e3 e4)∧w'.cell? ⟨p7,0,none⟩ = some (.slice (some ⟨xg,0,none⟩) n n)∧w'.cell? ⟨xg,key * 2,none⟩ = some (.bool t1)∧w'.cell? ⟨xg,key * 2 + 1,none⟩ = some (.slice t2 t3 t4)) V from ⟨((HG.out.2.2.1.kept HG2.out.2).kept K).cell 0 _ rfl,((HG.out.2.2.1.kept HG2.out.2).kept K).cell 1 _ rfl,(HG2.out.1.kept K).cell 0 _ rfl,(HG2.out.1.kept K).cell 1 _ rfl,((HB.out.1.later (HG.out.2.1.trans HG2.out.2)).later K).b7.cell 0 _,(K.cell (p:=⟨xg,key * 2,none⟩) hgl.2).trans x1,(K.cell (p:=⟨xg,key * 2 + 1,none⟩) hgl.2).trans x2⟩)
     clear x1 x2 x3 hfz hgl hal hrl
     have KT:Kept y2 y2.drew:=(Kept.refl _).drew
     refine rg_z 8 (S:=fun w' => w'.cell? ⟨p10,0,none⟩ = some (.bool s)∧w'.cell? ⟨p10,1,none⟩ = some (.slice o k c)∧w'.cell? ⟨p12,0,none⟩ = some (.bool e1)∧w'.cell? ⟨p12,1,none⟩ = some (.slice e2 e3 e4)∧w'.cell? ⟨p7,0,none⟩ = some (.slice (some ⟨xg,0,none⟩) n n)∧w'.cell? ⟨xg,key * 2,none⟩ = some (.bool t1)∧w'.cell? ⟨xg,key * 2 + 1,none⟩ = some (.slice t2 t3 t4)) (by kernel_rfl) (by kernel_rfl) (by rintro ⟨a,w,h⟩; exact h) (sS.out _ KT) (fun hHeld => ?_)
     generalize y2.drew = Wd at KT hHeld ⊢
     refine X.zk 0 hHeld ?_
     refine X.zk 1 hHeld ?_
     refine X.zk 2 hHeld ?_
     refine X.zk 3 hHeld ?_
     refine X.zk 4 hHeld ?_
     refine X.zk 5 hHeld ?_
     refine X.zr 6 fun K hK => ?_
     go_simp
     refine (hc1.out Wd KT).mono ?_
     rintro e v5 ⟨hk,s9,o9,k9,c9,rfl,hz9⟩
     refine hK.out _ _ (sS.out _ (KT.trans hk)) (fun hHeld => ?_)
     clear hK K
     have K5:=KT.trans hk
     clear hk KT
     have hm:=hc2.out s9 o9 k9 c9 v5 K5 hz9.zi
     clear hz9
     refine X.zr 7 fun K hK => ?_
     go_simp
     refine hm.mono ?_
     rintro e v6 ⟨hk,s7,o7,k7,c7,rfl,hz7⟩
     refine hK.out _ _ (sS.out _ (K5.trans hk)) (fun hHeld => ?_)
     clear hK K
     have K6:=HG2.out.2.trans (K5.trans hk)
     have hz7:=hz7.mono (show W.heap.size≤v5.heap.size from Nat.le_trans (HG.out.2.1.trans HG2.out.2).size K5.size)
     have r10:=HG.out.2.2.1.kept K6
     have c90:=r10.cell 0 _
     have c91:=r10.cell 1 _
     have g90:=r10.fz 0
     have g91:=r10.fz 1
     refine X.zl fun K hK => ?_
     go_simp
     refine hK.out _ _ ?_
     clear hK K hHeld
     refine X.zd ?_
     have hp10:=HB2.out.2.2.2.1
     have hrk:=(HG.out.2.2.2.2.1.kept K6).kx (((KX.refl v6).setCell (T:=fun k => k = p10) (p:=⟨p10,0,none⟩) (.inl rfl) (.bool s7)).setCell (p:=⟨p10,1,none⟩) (.inl rfl) (.slice o7 k7 c7)) (rowl_free r10 (by decide)) ((HG.out.2.2.2.2.1.kept K6).far_row r10) (fun b' hb' e => by cases hb'; have h1:=HB.out.2.2.2.2.2.2.1.lt; omega)
     have H9:=hid (And.intro (((HG.out.2.1.trans K6).setCell (p:=⟨p10,0,none⟩) hp10 (.bool s7)).setCell (p:=⟨p10,1,none⟩) hp10 (.slice o7 k7 c7)) (And.intro ((r10.set 0 (.bool s7)).set 1 (.slice o7 k7 c7)) (And.intro (zn_row hz7 r10 (by decide) (.bool s7) (.slice o7 k7 c7)) hrk)))
     generalize (v6.setCell ⟨p10,0,none⟩ (.bool s7)).setCell ⟨p10,1,none⟩ (.slice o7 k7 c7) = v8 at H9 ⊢
     clear c90 c91 g90 g91 r10 hz7 hrk hk K6 K5 hm
     --%R
     gi_wp2_with fail
     gi_roundg (n - (D.length + 1))
     case measure => have h1:=HG.out.2.2.2.2.2.1; simp only [List.length_cons] at h1; have:=H.out.2.2.2.2; omega
     case rel => exact ⟨key :: D,s7,o7,k7,c7,H9.out.1,H9.out.2.1,by rw [rsD_cons]; exact H9.out.2.2.1,H9.out.2.2.2,by simp⟩
  clear hK5
  have KT:Kept W W.drew:=(Kept.refl _).drew
  have sS:=hid (fun (V:World) (K:Kept W V) => show (fun w':World => w'.cell? ⟨p6,0,none⟩ = some (.bool s6)∧w'.cell? ⟨p6,1,none⟩ = some (.slice o6 k6 c6)∧w'.cell? ⟨p3,0,none⟩ = some (.slice (some ⟨ug,uoff,none⟩) n uc)∧w'.cell? ⟨q,0,none⟩ = some (.int .i64 (S.r:Int))∧w'.cell? ⟨ug,uoff + S.r * 2,none⟩ = some (.bool s8)∧w'.cell? ⟨ug,uoff + S.r * 2 + 1,none⟩ = some (.slice o8 k8 c8)) V from ⟨(HB.out.1.later K).b6.cell 0 _,(HB.out.1.later K).b6.cell 1 _,(HB.out.1.later K).b3.cell 0 _,(HB.out.2.2.2.2.1.kept K).cell 0 _ rfl,(K.cell (p:=⟨ug,uoff + S.r * 2,none⟩) HU.out.1).trans HU.out.2.1,(K.cell (p:=⟨ug,uoff + S.r * 2 + 1,none⟩) HU.out.1).trans HU.out.2.2.1⟩)
  have hcall:=hid (fun (V:World) (K:Kept W V) => times_any s6 s8 o6 o8 k6 c6 k8 c8 _ _ V (HB.out.1.later K).d.zi (HU.out.2.2.2.kept K) (mul_lim HB.out.2.2.2.2.2.1.last HB.out.2.2.2.2.2.1.side))
  refine rg_z 8 (S:=fun w' => w'.cell? ⟨p6,0,none⟩ = some (.bool s6)∧w'.cell? ⟨p6,1,none⟩ = some (.slice o6 k6 c6)∧w'.cell? ⟨p3,0,none⟩ = some (.slice (some ⟨ug,uoff,none⟩) n uc)∧w'.cell? ⟨q,0,none⟩ = some (.int .i64 (S.r:Int))∧w'.cell? ⟨ug,uoff + S.r * 2,none⟩ = some (.bool s8)∧w'.cell? ⟨ug,uoff + S.r * 2 + 1,none⟩ = some (.slice o8 k8 c8)) (by kernel_rfl) (by kernel_rfl) (by rintro ⟨a,w,h⟩; exact h) (sS.out _ KT) (fun hHeld => ?_)
  generalize W.drew = Wd at KT hHeld ⊢
  refine X.zk 0 hHeld ?_
  refine X.zk 1 hHeld ?_
  refine X.zk 2 hHeld ?_
  refine X.zk 3 hHeld ?_
  refine X.zk 4 hHeld ?_
  refine X.zk 5 hHeld ?_
  refine X.anyZ_ready (rs:=[6,7]) (by kernel_rfl) (by simp) (X.AllZ.cons rfl (fun K hK => ?_) (X.AllZ.cons rfl (fun K hK => ?_) X.AllZ.nil))
  ·
   --%L
   go_simp
   refine (hcall.out Wd KT).mono ?_
   rintro e u1 ⟨hk,s,o,k,c,rfl,hz⟩
   have hz:=hz.mono (show W.heap.size≤Wd.heap.size from KT.size)
   refine hK.out _ _ (sS.out _ (KT.trans hk)) (fun hHeld => ?_)
   clear hK K
   have KT:=KT.trans hk
   refine X.zr 7 fun K hK => ?_
   go_simp
   refine hK.out _ _ (sS.out _ (KT.alloc _)) (fun hHeld => ?_)
   clear hK K
   have r10:=RowL.alloc 37 u1 [.bool false,.slice none 0 0]
   have hp10:W.heap.size≤u1.heap.size:=KT.size
   have KA:=(Kept.refl u1).alloc (.cells #[.bool false,.slice none 0 0] 37)
   have KT:=KT.alloc (.cells #[.bool false,.slice none 0 0] 37)
   obtain ⟨p10,hg9⟩:∃ p,p = u1.heap.size:=⟨_,rfl⟩
   rw [← hg9] at r10 hp10 ⊢
   generalize u1.alloc (.cells #[.bool false,.slice none 0 0] 37) = Wa at r10 KA KT hHeld ⊢
   clear hg9
   have hz:=hz.kept KA
   have c90:=r10.cell 0 _
   have c91:=r10.cell 1 _
   have g90:=r10.fz 0
   have g91:=r10.fz 1
   refine X.zl fun K hK => ?_
   go_simp
   refine hK.out _ _ ?_
   clear hK K
   refine X.zd ?_
   exact HR p10 _ s o k c _ _ _ _ _ _ _ ((KT.setCell (p:=⟨p10,0,none⟩) hp10 _).setCell (p:=⟨p10,1,none⟩) hp10 _) hp10 ((r10.set 0 _).set 1 _) (zn_row hz r10 (by decide) _ _)
  ·
   --%M
   go_simp
   refine hK.out _ _ (sS.out _ (KT.alloc _)) (fun hHeld => ?_)
   clear hK K
   have r10:=RowL.alloc 37 Wd [.bool false,.slice none 0 0]
   have hp10:W.heap.size≤Wd.heap.size:=KT.size
   have KA:=(Kept.refl Wd).alloc (.cells #[.bool false,.slice none 0 0] 37)
   have KT:=KT.alloc (.cells #[.bool false,.slice none 0 0] 37)
   obtain ⟨p10,hg9⟩:∃ p,p = Wd.heap.size:=⟨_,rfl⟩
   rw [← hg9] at r10 hp10 ⊢
   generalize Wd.alloc (.cells #[.bool false,.slice none 0 0] 37) = Wa at r10 KA KT hHeld ⊢
   clear hg9
   refine X.zr 6 fun K hK => ?_
   go_simp
   refine (hcall.out Wa KT).mono ?_
   rintro e u1 ⟨hk,s,o,k,c,rfl,hz⟩
   have hz:=hz.mono (show W.heap.size≤Wa.heap.size from KT.size)
   refine hK.out _ _ (sS.out _ (KT.trans hk)) (fun hHeld => ?_)
   clear hK K
   have KT:=KT.trans hk
   have r10:=r10.kept hk
   have c90:=r10.cell 0 _
   have c91:=r10.cell 1 _
   have g90:=r10.fz 0
   have g91:=r10.fz 1
   refine X.zl fun K hK => ?_
   go_simp
   refine hK.out _ _ ?_
   clear hK K
   refine X.zd ?_
   exact HR p10 _ s o k c _ _ _ _ _ _ _ ((KT.setCell (p:=⟨p10,0,none⟩) hp10 _).setCell (p:=⟨p10,1,none⟩) hp10 _) hp10 ((r10.set 0 _).set 1 _) (zn_row hz r10 (by decide) _ _)
 case done =>
  rintro D xs W hD hS ⟨hI,hno,hsz⟩ hK
  have c7:=hI.b7.cell 0 _
  have d4:=hI.b4.cell 0 _
  have d5:=hI.b5.cell 0 _
  have f4:=hI.b4.fz 0
  have f5:=hI.b5.fz 0
  have HI:=hid (And.intro hI (And.intro hno (And.intro hK hS)))
  have h45:=HP.out.2.2.2.2
  have h54:p5 ≠ p4:=fun e => h45 e.symm
  clear hI hno hK hS
  --%H
  go_wp2_with fail
  obtain ⟨hI,hno,hK,hS⟩:=HI.out
  obtain ⟨q1,q2,q3,q4,q5⟩:=end_kx (v:=.slice (some ⟨xg,0,none⟩) n n) (u:=.int .i64 0) (.deferred none) hI.b4 hI.b5 hK
  have e4:=q2.cell 0 _
  have e5:=q3.cell 0 _
  refine ⟨by simp,.inl ⟨_,_,rfl,run_takeDeferred q5,.tuple #[.slice (some ⟨xg,0,none⟩) n n,.int .i64 0],by simp [results,Tryz.results47,go_sem,e4,e5],?_⟩⟩
  rw [HQ.out]
  have hd:bkX n M b ps (xs.map (clip n)) = bkA n M b ps:=by rw [hS,clip_dn (Nat.le_refl n)]; rfl
  rw [hd] at hI hno
  have hsz:=HP.out
  have hw9:=H9.out.kept.size
  refine ⟨KX.kept hI.kept q1 (fun k hk => by rcases hk with rfl | rfl | rfl <;> omega),.inr ⟨hno,_,_,rfl,?_⟩⟩
  exact SdX.mono2 (hI.x.kx (EN.keeps _) q1 (q4 _ (by decide) (by decide)) (q4 _ (by decide) (by decide))) hI.far.2
 case stop =>
  rintro D c pre W hD hSp ⟨hE,rfl,hw⟩ hK
  refine wpIn_ret ?_
  --%I
  have q1:=kx_putObj (W:=W) (D:=D) (.deferred none)
  have e4:=(hE.b4.block (w':=W.putObj D (.deferred none)) (World.putObj_heap_other (fun e => by obtain ⟨c,h,_⟩:=hE.b4; rw [e,hK] at h; cases h))).cell 0 _
  have e5:=(hE.b5.block (w':=W.putObj D (.deferred none)) (World.putObj_heap_other (fun e => by obtain ⟨c,h,_⟩:=hE.b5; rw [e,hK] at h; cases h))).cell 0 _
  refine ⟨by simp,.inl ⟨_,_,rfl,run_takeDeferred hK,.tuple #[.slice none 0 0,.int .i64 13],by simp [results,Tryz.results47,go_sem,e4,e5],?_⟩⟩
  rw [HQ.out]
  have hw9:=H9.out.kept.size
  obtain ⟨k,hk,rfl⟩:=hSp
  rw [clip_dn hk] at hw
  obtain ⟨j,hj,hw⟩:=hw
  refine ⟨KX.kept hE.kept q1 (fun k hk => by omega),.inl ⟨⟨j,hj,?_⟩,rfl⟩⟩
  cases e:wideZ limbs (bkA n M b ps j) with
  | true => rfl
  | false =>
   obtain ⟨i,hi,rfl⟩:=col_stage HF.out.1 HF.out.2.1 hj
   by_cases hik:n - k≤i
   ·
    rw [bkX_done HF.out.1 HF.out.2.1 hk hi hik,e] at hw
    cases hw
   ·
    rw [bkX_left HF.out.1 hk HF.out.2.1 hi (by omega),wide_0] at hw
    cases hw
end Bp
end Go.Proofs.YtdcfammglpebaaaGreat

namespace Go.Proofs.YtdcfammglpebaaaGreat
open Go.RowKit
open Ba (stg lastP pivs wideZ facS Fits)
namespace Bp
theorem solve_full (B fb n m limbs:Nat) (sa:Option Addr) (sc:Nat) (Ss:List StC) (M:Nat→Nat→Int) (bq:Nat→Bool) (b:Nat→Int) (ps:List (Nat × Nat)) (bo:Option Addr) (bc:Nat) (w:World) (h:FacR B w fb n limbs sa n sc Ss M ps) (hf:Fits n M ps) (hl:ps.length = n) (hs:facS n limbs M = (ps,0)) (hL:limbs≤32) (hn:n≤48) (hm:m≤1000000) (hq:IsL (ZQ bq) w (.slice bo m bc) m) (hI:(∀ j,j < m→bq j = true)→IL b w (.slice bo m bc) m) (hnil:bo = none→m = 0) :
  Calls Tryz.prog 17 #[.pointer (some ⟨fb,0,none⟩),.slice bo m bc] w (SolIs w n m limbs bq M b ps (bkA n M b ps)) :=
 solve_any B fb n m limbs sa sc Ss M bq b ps (bkA n M b ps) bo bc w h hf hl hs hL hn hm hq hI hnil fun W K uo uc hu hW => back_any B fb n limbs sa sc Ss M b ps uo uc W (h.kept K) hf hl hs hL hn hu hW
end Bp
end Go.Proofs.YtdcfammglpebaaaGreat

namespace Go.Proofs.YtdcfammglpebaaaGreat
open Go.RowKit
open V (RowL RowL.alloc RowL.lt RowL.cell RowL.fz RowL.kept)
open Sp (hid)
open Sy
open Bm (ZI ZI.kept ZI.of MxR ZsR mxr_at mxr_kept zsr_at zsr_kept cel_at mOk)
open Ba (stg lastP pivs wideZ facS Fits)
namespace Bp
theorem one_right {m:Nat} (h:0 < m) (h2:m < 4294967296):M.Right false [m]:=⟨fun x hx => by rw [List.mem_singleton.1 hx]; exact h2,.inr (by show m ≠ 0; omega),by show 1≤72; decide,fun h => by cases h⟩
theorem one_int (m:Nat):M.int false [m] = (m:Int):=by unfold M.int M.val; simp [M.val]
theorem one_eq {m:Nat} (h:0 < m) (h2:m < 4294967296) {s:Bool} {l:List Nat} (hr:M.Right s l) (hi:M.int s l = (m:Int)):s = false∧l = [m] :=
 M.int_inj hr (one_right h h2) (hi.trans (one_int m).symm)
theorem cell1_any (c x:Int) (m:Nat) (w:World) (hx:x = (m:Int)) (h:0 < m) (h2:m < 4294967296) :
  Calls Tryz.prog 32 #[.int .i64 c,.int .i64 x] w fun e w' => Kept w w'∧∃ ao cap,e = .returned (.agg #[.int .i64 c,.bool false,.slice ao 1 cap])∧ZE.ok w' ⟨false,ao,cap,[m]⟩:=by
 subst hx
 refine (Bm.cell14_any c (m:Int) w (by omega) (by omega)).mono ?_
 rintro e w' ⟨hk,s,ao,k,cap,l,rfl,hn,hr,hi⟩
 obtain ⟨rfl,rfl⟩:=one_eq h h2 hr hi
 have e1:=hn.sl.len
 subst e1
 exact ⟨hk,ao,cap,rfl,hn.sl,by show 1≤9223372036854775807; decide⟩
theorem of1_any (x:Int) (m:Nat) (w:World) (hx:x = (m:Int)) (h:0 < m) (h2:m < 4294967296) :
  Calls Tryz.prog 29 #[.int .i64 x] w fun e w' => Kept w w'∧∃ ao cap,e = .returned (.agg #[.bool false,.slice ao 1 cap])∧ZE.ok w' ⟨false,ao,cap,[m]⟩:=by
 subst hx
 refine (of_any (m:Int) w (by omega) (by omega)).mono ?_
 rintro e w' ⟨hk,s,ao,k,cap,l,rfl,hn,hr,hi⟩
 obtain ⟨rfl,rfl⟩:=one_eq h h2 hr hi
 have e1:=hn.sl.len
 subst e1
 exact ⟨hk,ao,cap,rfl,hn.sl,by show 1≤9223372036854775807; decide⟩
theorem ze_zi {w:World} {ao:Option Addr} {cap m:Nat} (h:ZE.ok w ⟨false,ao,cap,[m]⟩) (h1:0 < m) (h2:m < 4294967296):ZI w false (.slice ao 1 cap) (m:Int):=⟨[m],h.1,one_right h1 h2,one_int m⟩
theorem same_eq14 (m n:Bool) (ao bo:Option Addr) (k cap j cbp:Nat) (x y:Int) (w:World) (ha:ZI w m (.slice ao k cap) x) (hb:ZI w n (.slice bo j cbp) y) (h:x = y) :
  Calls Tryz.prog 15 #[.agg #[.bool m,.slice ao k cap],.agg #[.bool n,.slice bo j cbp]] w fun e w' => Kept w w'∧e = .returned (.bool true):=by
 refine (Bm.same14_any m n ao bo k cap j cbp x y w ha hb).mono ?_
 rintro e w' ⟨hk,rfl⟩
 rw [decide_eq_true h]
 exact ⟨hk,rfl⟩
theorem csr_row2 {w:World} {p:Nat} {c1 c2:CE} (r:RowL 39 w p (c1.cells ++ c2.cells)) (h1:c1.ok w) (h2:c2.ok w):CsR w (some ⟨p,0,none⟩) [c1,c2]:=fun _ => ⟨p,0,rfl,r.lt,fun i hi => by
 match i,hi with
 | 0,_ => exact ⟨fun j u hu => by change c1.cells[j]? = some u at hu; rw [show 0 + 0 * 3 + j = j by omega]; exact r.cell j u (by rw [List.getElem?_append_left (List.getElem?_eq_some_iff.1 hu).1]; exact hu),h1⟩
 | 1,_ => exact ⟨fun j u hu => by change c2.cells[j]? = some u at hu; rw [show 0 + 1 * 3 + j = 3 + j by omega]; exact r.cell (3 + j) u (by rw [List.getElem?_append_right (show c1.cells.length≤3 + j by show 3≤3 + j; omega),show 3 + j - c1.cells.length = j by show 3 + j - 3 = j; omega]; exact hu),h2⟩⟩
theorem mxr_row2 {w:World} {p:Nat} {l1 l2:LE} (r:RowL 34 w p [l1.v,l2.v]) (h1:CsR w l1.ao l1.cs) (h2:CsR w l2.ao l2.cs):MxR w (some ⟨p,0,none⟩) [l1,l2]:=fun _ => ⟨p,0,rfl,r.lt,fun i hi => by
 match i,hi with
 | 0,_ => exact ⟨fun j u hu => by
   match j,hu with
   | 0,hu => cases hu; exact r.cell 0 _,h1⟩
 | 1,_ => exact ⟨fun j u hu => by
   match j,hu with
   | 0,hu => cases hu; exact r.cell 1 _,h2⟩⟩
theorem zsr_row2 {w:World} {p:Nat} {z1 z2:ZE} (r:RowL 37 w p (z1.cells ++ z2.cells)) (h1:z1.ok w) (h2:z2.ok w):ZsR w (some ⟨p,0,none⟩) [z1,z2]:=fun _ => ⟨p,0,rfl,r.lt,fun i hi => by
 match i,hi with
 | 0,_ => exact ⟨fun j u hu => by change z1.cells[j]? = some u at hu; rw [show 0 + 0 * 2 + j = j by omega]; exact r.cell j u (by rw [List.getElem?_append_left (List.getElem?_eq_some_iff.1 hu).1]; exact hu),h1⟩
 | 1,_ => exact ⟨fun j u hu => by change z2.cells[j]? = some u at hu; rw [show 0 + 1 * 2 + j = 2 + j by omega]; exact r.cell (2 + j) u (by rw [List.getElem?_append_right (show z1.cells.length≤2 + j by show 2≤2 + j; omega),show 2 + j - z1.cells.length = j by show 2 + j - 2 = j; omega]; exact hu),h2⟩⟩
def zsF (L:List ZE) (j:Nat):Int:=M.int (L.getD j ⟨false,none,0,[]⟩).neg (L.getD j ⟨false,none,0,[]⟩).lim
def zsB (L:List ZE) (j:Nat):Bool:=(L.getD j ⟨false,none,0,[]⟩).right
theorem getD_in {α:Type} {L:List α} {d:α} {j:Nat} (hj:j < L.length):L.getD j d = L[j]:=by rw [List.getD_eq_getElem?_getD,List.getElem?_eq_getElem hj]; rfl
theorem zsr_q {w:World} {ao:Option Addr} {L:List ZE} (h:ZsR w ao L) (n c:Nat) (hn:n = L.length):IsL (ZQ (zsB L)) w (.slice ao n c) n:=by
 subst hn
 refine ⟨ao,c,rfl,fun h0 => ?_⟩
 obtain ⟨b,off,rfl,hb,hx⟩:=h h0
 refine ⟨b,off,rfl,hb,fun j hj => ?_⟩
 obtain ⟨h1,h2⟩:=hx j hj
 refine ⟨L[j].neg,L[j].ao,L[j].lim.length,L[j].cap,by have:=h1 0 _ rfl; rw [Nat.add_zero] at this; exact this,h1 1 _ rfl,L[j].lim,h2.1,h2.2,?_⟩
 unfold zsB
 rw [getD_in hj]
 exact right_R
theorem zsr_il {w:World} {ao:Option Addr} {L:List ZE} (h:ZsR w ao L) (n c:Nat) (hn:n = L.length) (hr:∀ j,j < n→zsB L j = true):IL (zsF L) w (.slice ao n c) n:=by
 subst hn
 refine ⟨ao,c,rfl,fun h0 => ?_⟩
 obtain ⟨b,off,rfl,hb,hx⟩:=h h0
 refine ⟨b,off,rfl,hb,fun j hj => ?_⟩
 obtain ⟨h1,h2⟩:=hx j hj
 have h3:=hr j hj
 unfold zsB at h3
 rw [getD_in hj] at h3
 refine ⟨L[j].neg,L[j].ao,L[j].lim.length,L[j].cap,by have:=h1 0 _ rfl; rw [Nat.add_zero] at this; exact this,h1 1 _ rfl,?_⟩
 unfold zsF
 dsimp only
 rw [getD_in hj]
 exact ZI.of h2 h3
end Bp
end Go.Proofs.YtdcfammglpebaaaGreat

namespace Go.Proofs.YtdcfammglpebaaaGreat
open Go.RowKit
open V (RowL RowL.alloc RowL.lt RowL.cell RowL.fz RowL.kept)
open Sp (hid)
open Sy
open Bm (ZI ZI.kept ZI.of MxR ZsR mxr_at mxr_kept zsr_at zsr_kept cel_at mOk)
open Ba (stg lastP pivs wideZ facS Fits)
namespace Bp
def aL (pa pb:Nat) (a1 a2 a3 a4:Option Addr) (c1 c2 c3 c4:Nat):List LE:=[⟨some ⟨pa,0,none⟩,2,[⟨0,⟨false,a1,c1,[2]⟩⟩,⟨1,⟨false,a2,c2,[1]⟩⟩]⟩,⟨some ⟨pb,0,none⟩,2,[⟨0,⟨false,a3,c3,[1]⟩⟩,⟨1,⟨false,a4,c4,[3]⟩⟩]⟩]
def aL2 (pa pb:Nat) (a1 a2 a3 a4:Option Addr) (c1 c2 c3 c4:Nat):List LE:=[⟨some ⟨pa,0,none⟩,2,[⟨0,⟨false,a1,c1,[1]⟩⟩,⟨1,⟨false,a2,c2,[2]⟩⟩]⟩,⟨some ⟨pb,0,none⟩,2,[⟨0,⟨false,a3,c3,[2]⟩⟩,⟨1,⟨false,a4,c4,[4]⟩⟩]⟩]
def aZ (a5 a6:Option Addr) (c5 c6:Nat):List ZE:=[⟨false,a5,c5,[5]⟩,⟨false,a6,c6,[10]⟩]
section
variable {pa pb:Nat} {a1 a2 a3 a4 a5 a6:Option Addr} {c1 c2 c3 c4 c5 c6:Nat}
theorem aL_ok:mOk (aL pa pb a1 a2 a3 a4 c1 c2 c3 c4) = true:=by kernel_rfl
theorem aL_fac:facS 2 (32:Int).toNat (matF (aL pa pb a1 a2 a3 a4 c1 c2 c3 c4)) = ([(0,0),(1,1)],0):=by kernel_rfl
theorem aL_last:lastP (matF (aL pa pb a1 a2 a3 a4 c1 c2 c3 c4)) [(0,0),(1,1)] = 5:=by kernel_rfl
theorem aL_det:detP (matF (aL pa pb a1 a2 a3 a4 c1 c2 c3 c4)) [(0,0),(1,1)] 2 = 5:=by kernel_rfl
theorem aL_sd0:sdW 2 32 (matF (aL pa pb a1 a2 a3 a4 c1 c2 c3 c4)) (zsF (aZ a5 a6 c5 c6)) [(0,0),(1,1)] 0 = false:=by kernel_rfl
theorem aL_sd1:sdW 2 32 (matF (aL pa pb a1 a2 a3 a4 c1 c2 c3 c4)) (zsF (aZ a5 a6 c5 c6)) [(0,0),(1,1)] 1 = false:=by kernel_rfl
theorem aL_sd2:sdW 2 32 (matF (aL pa pb a1 a2 a3 a4 c1 c2 c3 c4)) (zsF (aZ a5 a6 c5 c6)) [(0,0),(1,1)] 2 = false:=by kernel_rfl
theorem aL_sd:∀ k,k≤2→sdW 2 32 (matF (aL pa pb a1 a2 a3 a4 c1 c2 c3 c4)) (zsF (aZ a5 a6 c5 c6)) [(0,0),(1,1)] k = false:=by
 intro k hk
 match k,hk with
 | 0,_ => exact aL_sd0
 | 1,_ => exact aL_sd1
 | 2,_ => exact aL_sd2
theorem w5:wideZ 32 5 = false:=by kernel_rfl
theorem w15:wideZ 32 15 = false:=by kernel_rfl
theorem aL_bk0:bkA 2 (matF (aL pa pb a1 a2 a3 a4 c1 c2 c3 c4)) (zsF (aZ a5 a6 c5 c6)) [(0,0),(1,1)] 0 = 5:=by kernel_rfl
theorem aL_bk1:bkA 2 (matF (aL pa pb a1 a2 a3 a4 c1 c2 c3 c4)) (zsF (aZ a5 a6 c5 c6)) [(0,0),(1,1)] 1 = 15:=by kernel_rfl
theorem aL_bkw:∀ j,j < 2→wideZ 32 (bkA 2 (matF (aL pa pb a1 a2 a3 a4 c1 c2 c3 c4)) (zsF (aZ a5 a6 c5 c6)) [(0,0),(1,1)] j) = false:=by
 intro j hj
 match j,hj with
 | 0,_ => rw [aL_bk0]; exact w5
 | 1,_ => rw [aL_bk1]; exact w15
theorem aZ_ok:Bp.anyB (fun j => !zsB (aZ a5 a6 c5 c6) j) 2 = false:=by kernel_rfl
theorem aL2_ok:mOk (aL2 pa pb a1 a2 a3 a4 c1 c2 c3 c4) = true:=by kernel_rfl
theorem aL2_fac:facS 2 (32:Int).toNat (matF (aL2 pa pb a1 a2 a3 a4 c1 c2 c3 c4)) = ([(0,0)],140):=by kernel_rfl
end
set_option maxRecDepth 100000 in
set_option maxHeartbeats 16000000 in
theorem awake14_any (w:World):Calls Tryz.prog 8 #[] w fun e w' => Kept w w'∧e = .returned (.bool true):=by
 go_enter Tryz.func8,Tryz.ntmps8
 go_wp2_with fail
 refine (cell1_any 0 2 2 w rfl (by decide) (by decide)).mono ?_
 rintro e uw0 ⟨hk,ua0,uc0,rfl,hz⟩
 have uK:=hk
 have uz0:=hz
 clear hk hz
 go_wp2_with fail
 refine (cell1_any 1 1 1 uw0 rfl (by decide) (by decide)).mono ?_
 rintro e uw1 ⟨hk,ua1,uc1,rfl,hz⟩
 have uK:=uK.trans hk
 have uz0:=uz0.kept hk
 have uz1:=hz
 clear hk hz
 have r:=RowL.alloc 39 uw1 [.int .i64 0,.bool false,.slice ua0 1 uc0,.int .i64 1,.bool false,.slice ua1 1 uc1]
 have k:=(Kept.refl uw1).alloc (.cells #[.int .i64 0,.bool false,.slice ua0 1 uc0,.int .i64 1,.bool false,.slice ua1 1 uc1] 39)
 obtain ⟨upa,hp⟩:∃ p,p = uw1.heap.size:=⟨_,rfl⟩
 --%ua
 go_wp2_with fail
 rw [← hp] at r ⊢
 generalize uw1.alloc (.cells #[.int .i64 0,.bool false,.slice ua0 1 uc0,.int .i64 1,.bool false,.slice ua1 1 uc1] 39) = uva at r k ⊢
 clear hp
 have ura:=csr_row2 (c1:=⟨0,⟨false,ua0,uc0,[2]⟩⟩) (c2:=⟨1,⟨false,ua1,uc1,[1]⟩⟩) r (uz0.kept k) (uz1.kept k)
 have uK:=uK.trans k
 clear r k uz0 uz1
 refine (cell1_any 0 1 1 uva rfl (by decide) (by decide)).mono ?_
 rintro e uw2 ⟨hk,ua2,uc2,rfl,hz⟩
 have uK:=uK.trans hk
 have ura:=csr_kept ura hk
 have uz2:=hz
 clear hk hz
 go_wp2_with fail
 refine (cell1_any 1 3 3 uw2 rfl (by decide) (by decide)).mono ?_
 rintro e uw3 ⟨hk,ua3,uc3,rfl,hz⟩
 have uK:=uK.trans hk
 have uz2:=uz2.kept hk
 have ura:=csr_kept ura hk
 have uz3:=hz
 clear hk hz
 have r:=RowL.alloc 39 uw3 [.int .i64 0,.bool false,.slice ua2 1 uc2,.int .i64 1,.bool false,.slice ua3 1 uc3]
 have k:=(Kept.refl uw3).alloc (.cells #[.int .i64 0,.bool false,.slice ua2 1 uc2,.int .i64 1,.bool false,.slice ua3 1 uc3] 39)
 obtain ⟨upb,hp⟩:∃ p,p = uw3.heap.size:=⟨_,rfl⟩
 have r2:=RowL.alloc 34 (uw3.alloc (.cells #[.int .i64 0,.bool false,.slice ua2 1 uc2,.int .i64 1,.bool false,.slice ua3 1 uc3] 39)) [.slice (some ⟨upa,0,none⟩) 2 2,.slice (some ⟨upb,0,none⟩) 2 2]
 have k2:=(Kept.refl (uw3.alloc (.cells #[.int .i64 0,.bool false,.slice ua2 1 uc2,.int .i64 1,.bool false,.slice ua3 1 uc3] 39))).alloc (.cells #[.slice (some ⟨upa,0,none⟩) 2 2,.slice (some ⟨upb,0,none⟩) 2 2] 34)
 have sz:=alloc_sz uw3 (.cells #[.int .i64 0,.bool false,.slice ua2 1 uc2,.int .i64 1,.bool false,.slice ua3 1 uc3] 39)
 rw [← hp] at r
 have HZ:=hid (And.intro hp sz)
 clear hp sz
 --%ub
 go_wp2_with fail
 obtain ⟨hp,sz⟩:=HZ.out
 rw [← hp] at sz ⊢
 rw [sz] at r2
 generalize uw3.alloc (.cells #[.int .i64 0,.bool false,.slice ua2 1 uc2,.int .i64 1,.bool false,.slice ua3 1 uc3] 39) = uvb at r k r2 k2 ⊢
 generalize uvb.alloc (.cells #[.slice (some ⟨upa,0,none⟩) 2 2,.slice (some ⟨upb,0,none⟩) 2 2] 34) = uv at r2 k2 ⊢
 clear hp sz HZ
 obtain ⟨upm,hpm⟩:∃ p,p = upb + 1:=⟨_,rfl⟩
 rw [← hpm] at r2 ⊢
 clear hpm
 have urb:=csr_row2 (c1:=⟨0,⟨false,ua2,uc2,[1]⟩⟩) (c2:=⟨1,⟨false,ua3,uc3,[3]⟩⟩) r (uz2.kept k) (uz3.kept k)
 have uM:=mxr_row2 (l1:=⟨some ⟨upa,0,none⟩,2,[⟨0,⟨false,ua0,uc0,[2]⟩⟩,⟨1,⟨false,ua1,uc1,[1]⟩⟩]⟩) (l2:=⟨some ⟨upb,0,none⟩,2,[⟨0,⟨false,ua2,uc2,[1]⟩⟩,⟨1,⟨false,ua3,uc3,[3]⟩⟩]⟩) r2 (csr_kept (csr_kept ura k) k2) (csr_kept urb k2)
 have uK:=(uK.trans k).trans k2
 clear r k r2 k2 uz2 uz3 ura urb
 --%A
 refine (new_any (some ⟨upm,0,none⟩) 2 2 32 (aL upa upb ua0 ua1 ua2 ua3 uc0 uc1 uc2 uc3) uv uM rfl (by intro l hl; simp only [aL,List.mem_cons,List.mem_nil_iff,or_false] at hl; rcases hl with rfl | rfl <;> exact (by decide:2≤1000000)) (by omega) (by omega) (by omega)).mono ?_
 rintro e w5 ⟨hk,⟨h1,_⟩ | ⟨_,h1,_⟩ | ⟨_,_,ps,er,hs,hf,hx⟩⟩
 ·
  rw [aL_ok] at h1; cases h1
 ·
  omega
 rw [aL_fac] at hs
 cases hs
 rcases hx with ⟨h1,_⟩ | ⟨_,fb,sa,sk,sc,Ss,rfl,hF⟩
 ·
  exact absurd rfl h1
 have hsk:sk = 2:=hF.len
 subst hsk
 have K5:=uK.trans hk
 have HF:=hid hf
 have HR:=hid hF
 clear hk hF hf uM uK
 --%B
 go_wp2_with fail
 refine (of1_any 5 5 w5 rfl (by decide) (by decide)).mono ?_
 rintro e w6 ⟨hk,a5,c5,rfl,hz5⟩
 have HR:=hid (HR.out.kept hk)
 have K6:=K5.trans hk
 clear hk K5
 go_wp2_with fail
 refine (of1_any 10 10 w6 rfl (by decide) (by decide)).mono ?_
 rintro e w7 ⟨hk,a6,c6,rfl,hz6⟩
 have HR:=hid (HR.out.kept hk)
 have hz5:=hz5.kept hk
 have K7:=K6.trans hk
 have r:=RowL.alloc 37 w7 [.bool false,.slice a5 1 c5,.bool false,.slice a6 1 c6]
 have k:=(Kept.refl w7).alloc (.cells #[.bool false,.slice a5 1 c5,.bool false,.slice a6 1 c6] 37)
 obtain ⟨pz,hp⟩:∃ p,p = w7.heap.size:=⟨_,rfl⟩
 rw [← hp] at r
 have HPz:=hid hp
 clear hk K6 hp
 --%C
 go_wp2_with fail
 rw [← HPz.out]
 generalize w7.alloc (.cells #[.bool false,.slice a5 1 c5,.bool false,.slice a6 1 c6] 37) = w8 at r k ⊢
 have hZ:=zsr_row2 (z1:=⟨false,a5,c5,[5]⟩) (z2:=⟨false,a6,c6,[10]⟩) r (hz5.kept k) (hz6.kept k)
 have HR:=hid (HR.out.kept k)
 have K8:=K7.trans k
 clear r k hz5 hz6 K7 HPz
 refine (solve_full uv.heap.size fb 2 2 (32:Int).toNat sa sc Ss (matF (aL upa upb ua0 ua1 ua2 ua3 uc0 uc1 uc2 uc3)) (zsB (aZ a5 a6 c5 c6)) (zsF (aZ a5 a6 c5 c6)) [(0,0),(1,1)] (some ⟨pz,0,none⟩) 2 w8 HR.out HF.out rfl aL_fac (by decide) (by omega) (by omega) (zsr_q hZ 2 2 rfl) (zsr_il hZ 2 2 rfl) (fun e => by cases e)).mono ?_
 rintro e w9 ⟨hk,⟨h1,_⟩ | ⟨_,h1,_⟩ | ⟨_,_,⟨⟨k,h1,h2⟩,_⟩ | ⟨_,⟨⟨j,h1,h2⟩,_⟩ | ⟨_,xo,xc,s,o,k,c,rfl,hX,hD⟩⟩⟩⟩
 ·
  exact absurd rfl h1
 ·
  rw [aZ_ok] at h1; cases h1
 ·
  have h9:false = true:=(aL_sd k h1).symm.trans h2
  cases h9
 ·
  have h9:false = true:=(aL_bkw j h1).symm.trans h2
  cases h9
 obtain ⟨xg,s0,o0,k0,c0,rfl,hg,v0,v1,y0,_⟩:=hX.at (show 0 < 2 by decide)
 obtain ⟨xg',s1,o1,k1,c1,e,_,v2,v3,y1,_⟩:=hX.at (show 1 < 2 by decide)
 cases e
 have y0:ZI w9 s0 (.slice o0 k0 c0) 5:=by rw [show (5:Int) = (if lastP (matF (aL upa upb ua0 ua1 ua2 ua3 uc0 uc1 uc2 uc3)) [(0,0),(1,1)] < 0 then -(bkA 2 (matF (aL upa upb ua0 ua1 ua2 ua3 uc0 uc1 uc2 uc3)) (zsF (aZ a5 a6 c5 c6)) [(0,0),(1,1)] 0) else bkA 2 (matF (aL upa upb ua0 ua1 ua2 ua3 uc0 uc1 uc2 uc3)) (zsF (aZ a5 a6 c5 c6)) [(0,0),(1,1)] 0) by rw [aL_last,aL_bk0]; rfl]; exact y0.zi
 have y1:ZI w9 s1 (.slice o1 k1 c1) 15:=by rw [show (15:Int) = (if lastP (matF (aL upa upb ua0 ua1 ua2 ua3 uc0 uc1 uc2 uc3)) [(0,0),(1,1)] < 0 then -(bkA 2 (matF (aL upa upb ua0 ua1 ua2 ua3 uc0 uc1 uc2 uc3)) (zsF (aZ a5 a6 c5 c6)) [(0,0),(1,1)] 1) else bkA 2 (matF (aL upa upb ua0 ua1 ua2 ua3 uc0 uc1 uc2 uc3)) (zsF (aZ a5 a6 c5 c6)) [(0,0),(1,1)] 1) by rw [aL_last,aL_bk1]; rfl]; exact y1.zi
 have yd:ZI w9 s (.slice o k c) 5:=by rw [show (5:Int) = (if lastP (matF (aL upa upb ua0 ua1 ua2 ua3 uc0 uc1 uc2 uc3)) [(0,0),(1,1)] < 0 then -(lastP (matF (aL upa upb ua0 ua1 ua2 ua3 uc0 uc1 uc2 uc3)) [(0,0),(1,1)]) else lastP (matF (aL upa upb ua0 ua1 ua2 ua3 uc0 uc1 uc2 uc3)) [(0,0),(1,1)]) by rw [aL_last]; rfl]; exact hD.zi
 have HR:=hid (HR.out.kept hk)
 have K9:=K8.trans hk
 have HY:=hid (And.intro y0 (And.intro y1 (And.intro yd (And.intro hg.2 (And.intro v0 (And.intro v1 (And.intro v2 v3)))))))
 clear hk hX hD y0 y1 yd hg v0 v1 v2 v3 hZ K8
 have rS:=RowL.alloc 54 w9 [.slice (some ⟨xg,0,none⟩) 2 xc,.bool s,.slice o k c]
 have kS:=(Kept.refl w9).alloc (.cells #[.slice (some ⟨xg,0,none⟩) 2 xc,.bool s,.slice o k c] 54)
 --%D
 go_upto_region 5 with fail
 obtain ⟨p4,hp4⟩:∃ p,p = w9.heap.size:=⟨_,rfl⟩
 rw [← hp4] at rS ⊢
 generalize w9.alloc (.cells #[.slice (some ⟨xg,0,none⟩) 2 xc,.bool s,.slice o k c] 54) = w10 at rS kS ⊢
 clear hp4
 have HT:=hid (fun (V:World) (K:Kept w10 V) => And.intro (rS.kept K) (And.intro (kS.trans K) (And.intro (K9.trans (kS.trans K)) (HR.out.kept (kS.trans K)))))
 clear rS kS K9 HR
 --%E
 go_wp2_with fail
 refine (cell1_any 0 1 1 w10 rfl (by decide) (by decide)).mono ?_
 rintro e tw0 ⟨hk,ta0,tc0,rfl,hz⟩
 have tK:=hk
 have tz0:=hz
 clear hk hz
 go_wp2_with fail
 refine (cell1_any 1 2 2 tw0 rfl (by decide) (by decide)).mono ?_
 rintro e tw1 ⟨hk,ta1,tc1,rfl,hz⟩
 have tK:=tK.trans hk
 have tz0:=tz0.kept hk
 have tz1:=hz
 clear hk hz
 have r:=RowL.alloc 39 tw1 [.int .i64 0,.bool false,.slice ta0 1 tc0,.int .i64 1,.bool false,.slice ta1 1 tc1]
 have k:=(Kept.refl tw1).alloc (.cells #[.int .i64 0,.bool false,.slice ta0 1 tc0,.int .i64 1,.bool false,.slice ta1 1 tc1] 39)
 obtain ⟨tpa,hp⟩:∃ p,p = tw1.heap.size:=⟨_,rfl⟩
 --%ta
 go_wp2_with fail
 rw [← hp] at r ⊢
 generalize tw1.alloc (.cells #[.int .i64 0,.bool false,.slice ta0 1 tc0,.int .i64 1,.bool false,.slice ta1 1 tc1] 39) = tva at r k ⊢
 clear hp
 have tra:=csr_row2 (c1:=⟨0,⟨false,ta0,tc0,[1]⟩⟩) (c2:=⟨1,⟨false,ta1,tc1,[2]⟩⟩) r (tz0.kept k) (tz1.kept k)
 have tK:=tK.trans k
 clear r k tz0 tz1
 refine (cell1_any 0 2 2 tva rfl (by decide) (by decide)).mono ?_
 rintro e tw2 ⟨hk,ta2,tc2,rfl,hz⟩
 have tK:=tK.trans hk
 have tra:=csr_kept tra hk
 have tz2:=hz
 clear hk hz
 go_wp2_with fail
 refine (cell1_any 1 4 4 tw2 rfl (by decide) (by decide)).mono ?_
 rintro e tw3 ⟨hk,ta3,tc3,rfl,hz⟩
 have tK:=tK.trans hk
 have tz2:=tz2.kept hk
 have tra:=csr_kept tra hk
 have tz3:=hz
 clear hk hz
 have r:=RowL.alloc 39 tw3 [.int .i64 0,.bool false,.slice ta2 1 tc2,.int .i64 1,.bool false,.slice ta3 1 tc3]
 have k:=(Kept.refl tw3).alloc (.cells #[.int .i64 0,.bool false,.slice ta2 1 tc2,.int .i64 1,.bool false,.slice ta3 1 tc3] 39)
 obtain ⟨tpb,hp⟩:∃ p,p = tw3.heap.size:=⟨_,rfl⟩
 have r2:=RowL.alloc 34 (tw3.alloc (.cells #[.int .i64 0,.bool false,.slice ta2 1 tc2,.int .i64 1,.bool false,.slice ta3 1 tc3] 39)) [.slice (some ⟨tpa,0,none⟩) 2 2,.slice (some ⟨tpb,0,none⟩) 2 2]
 have k2:=(Kept.refl (tw3.alloc (.cells #[.int .i64 0,.bool false,.slice ta2 1 tc2,.int .i64 1,.bool false,.slice ta3 1 tc3] 39))).alloc (.cells #[.slice (some ⟨tpa,0,none⟩) 2 2,.slice (some ⟨tpb,0,none⟩) 2 2] 34)
 have sz:=alloc_sz tw3 (.cells #[.int .i64 0,.bool false,.slice ta2 1 tc2,.int .i64 1,.bool false,.slice ta3 1 tc3] 39)
 rw [← hp] at r
 have HZ:=hid (And.intro hp sz)
 clear hp sz
 --%tb
 go_wp2_with fail
 obtain ⟨hp,sz⟩:=HZ.out
 rw [← hp] at sz ⊢
 rw [sz] at r2
 generalize tw3.alloc (.cells #[.int .i64 0,.bool false,.slice ta2 1 tc2,.int .i64 1,.bool false,.slice ta3 1 tc3] 39) = tvb at r k r2 k2 ⊢
 generalize tvb.alloc (.cells #[.slice (some ⟨tpa,0,none⟩) 2 2,.slice (some ⟨tpb,0,none⟩) 2 2] 34) = tv at r2 k2 ⊢
 clear hp sz HZ
 obtain ⟨tpm,hpm⟩:∃ p,p = tpb + 1:=⟨_,rfl⟩
 rw [← hpm] at r2 ⊢
 clear hpm
 have trb:=csr_row2 (c1:=⟨0,⟨false,ta2,tc2,[2]⟩⟩) (c2:=⟨1,⟨false,ta3,tc3,[4]⟩⟩) r (tz2.kept k) (tz3.kept k)
 have tM:=mxr_row2 (l1:=⟨some ⟨tpa,0,none⟩,2,[⟨0,⟨false,ta0,tc0,[1]⟩⟩,⟨1,⟨false,ta1,tc1,[2]⟩⟩]⟩) (l2:=⟨some ⟨tpb,0,none⟩,2,[⟨0,⟨false,ta2,tc2,[2]⟩⟩,⟨1,⟨false,ta3,tc3,[4]⟩⟩]⟩) r2 (csr_kept (csr_kept tra k) k2) (csr_kept trb k2)
 have tK:=(tK.trans k).trans k2
 clear r k r2 k2 tz2 tz3 tra trb
 --%F
 refine (new_any (some ⟨tpm,0,none⟩) 2 2 32 (aL2 tpa tpb ta0 ta1 ta2 ta3 tc0 tc1 tc2 tc3) tv tM rfl (by intro l hl; simp only [aL2,List.mem_cons,List.mem_nil_iff,or_false] at hl; rcases hl with rfl | rfl <;> exact (by decide:2≤1000000)) (by omega) (by omega) (by omega)).mono ?_
 rintro e w11 ⟨hk,⟨h1,_⟩ | ⟨_,h1,_⟩ | ⟨_,_,ps,er,hs,_,hx⟩⟩
 ·
  rw [aL2_ok] at h1; cases h1
 ·
  omega
 rw [aL2_fac] at hs
 cases hs
 rcases hx with ⟨_,rfl⟩ | ⟨h1,_⟩
 rotate_left
 ·
  exact absurd h1 (by decide)
 have HK:=hid (tK.trans hk)
 clear hk tM tK
 --%G
 go_upto_region 6 with fail
 have KT:Kept w10 w11.drew:=HK.out.drew
 have sS:=hid (fun (V:World) (K:Kept w10 V) => show (fun w':World => w'.cell? ⟨p4,0,none⟩ = some (.slice (some ⟨xg,0,none⟩) 2 xc)∧w'.cell? ⟨p4,1,none⟩ = some (.bool s)∧w'.cell? ⟨p4,2,none⟩ = some (.slice o k c)∧w'.cell? ⟨xg,0,none⟩ = some (.bool s0)∧w'.cell? ⟨xg,1,none⟩ = some (.slice o0 k0 c0)∧w'.cell? ⟨xg,2,none⟩ = some (.bool s1)∧w'.cell? ⟨xg,3,none⟩ = some (.slice o1 k1 c1)) V from ⟨(HT.out V K).1.cell 0 _ rfl,(HT.out V K).1.cell 1 _ rfl,(HT.out V K).1.cell 2 _ rfl,((HT.out V K).2.1.cell (p:=⟨xg,0,none⟩) HY.out.2.2.2.1).trans HY.out.2.2.2.2.1,((HT.out V K).2.1.cell (p:=⟨xg,1,none⟩) HY.out.2.2.2.1).trans HY.out.2.2.2.2.2.1,((HT.out V K).2.1.cell (p:=⟨xg,2,none⟩) HY.out.2.2.2.1).trans HY.out.2.2.2.2.2.2.1,((HT.out V K).2.1.cell (p:=⟨xg,3,none⟩) HY.out.2.2.2.1).trans HY.out.2.2.2.2.2.2.2⟩)
 refine wp_region_held_drew (S:=fun w' => w'.cell? ⟨p4,0,none⟩ = some (.slice (some ⟨xg,0,none⟩) 2 xc)∧w'.cell? ⟨p4,1,none⟩ = some (.bool s)∧w'.cell? ⟨p4,2,none⟩ = some (.slice o k c)∧w'.cell? ⟨xg,0,none⟩ = some (.bool s0)∧w'.cell? ⟨xg,1,none⟩ = some (.slice o0 k0 c0)∧w'.cell? ⟨xg,2,none⟩ = some (.bool s1)∧w'.cell? ⟨xg,3,none⟩ = some (.slice o1 k1 c1)) (by kernel_rfl) (sS.out _ KT) (fun hHeld => ?_)
 generalize w11.drew = V0 at KT hHeld ⊢
 refine tk 0 hHeld ?_
 refine tk 1 hHeld ?_
 refine tk 2 hHeld ?_
 refine tk 3 hHeld ?_
 refine tk 4 hHeld ?_
 refine tk 5 hHeld ?_
 refine tk 6 hHeld ?_
 refine tk 7 hHeld ?_
 refine tk 8 hHeld ?_
 refine tk 9 hHeld ?_
 refine tk 10 hHeld ?_
 refine tk 11 hHeld ?_
 refine tk 12 hHeld ?_
 refine rdy 13 fun K hK => ?_
 go_simp
 refine (of1_any 5 5 V0 rfl (by decide) (by decide)).mono ?_
 rintro e V1 ⟨hk,f1a,f1c,rfl,f1z⟩
 refine hK.out _ _ (sS.out _ (KT.trans hk)) (fun hHeld => ?_)
 clear hK K
 have KT:=KT.trans hk
 clear hk
 refine rdy 14 fun K hK => ?_
 go_simp
 refine (same_eq14 s0 false o0 f1a k0 c0 1 f1c _ _ V1 (HY.out.1.kept (HT.out _ KT).2.1) (ze_zi f1z (by decide) (by decide)) rfl).mono ?_
 rintro e V2 ⟨hk,rfl⟩
 refine hK.out _ _ (sS.out _ (KT.trans hk)) (fun hHeld => ?_)
 clear hK K
 have KT:=KT.trans hk
 clear hk
 refine tk 15 hHeld ?_
 refine tk 16 hHeld ?_
 refine tk 17 hHeld ?_
 refine tk 18 hHeld ?_
 refine tk 19 hHeld ?_
 refine tk 20 hHeld ?_
 refine rdy 21 fun K hK => ?_
 go_simp
 refine (of1_any 15 15 V2 rfl (by decide) (by decide)).mono ?_
 rintro e V3 ⟨hk,f2a,f2c,rfl,f2z⟩
 refine hK.out _ _ (sS.out _ (KT.trans hk)) (fun hHeld => ?_)
 clear hK K
 have KT:=KT.trans hk
 clear hk
 refine rdy 22 fun K hK => ?_
 go_simp
 refine (same_eq14 s1 false o1 f2a k1 c1 1 f2c _ _ V3 (HY.out.2.1.kept (HT.out _ KT).2.1) (ze_zi f2z (by decide) (by decide)) rfl).mono ?_
 rintro e V4 ⟨hk,rfl⟩
 refine hK.out _ _ (sS.out _ (KT.trans hk)) (fun hHeld => ?_)
 clear hK K
 have KT:=KT.trans hk
 clear hk
 refine tk 23 hHeld ?_
 refine tk 24 hHeld ?_
 refine tk 25 hHeld ?_
 refine tk 26 hHeld ?_
 refine rdy 27 fun K hK => ?_
 go_simp
 refine (of1_any 5 5 V4 rfl (by decide) (by decide)).mono ?_
 rintro e V5 ⟨hk,f3a,f3c,rfl,f3z⟩
 refine hK.out _ _ (sS.out _ (KT.trans hk)) (fun hHeld => ?_)
 clear hK K
 have KT:=KT.trans hk
 clear hk
 refine rdy 28 fun K hK => ?_
 go_simp
 refine (same_eq14 s false o f3a k c 1 f3c _ _ V5 (HY.out.2.2.1.kept (HT.out _ KT).2.1) (ze_zi f3z (by decide) (by decide)) rfl).mono ?_
 rintro e V6 ⟨hk,rfl⟩
 refine hK.out _ _ (sS.out _ (KT.trans hk)) (fun hHeld => ?_)
 clear hK K
 have KT:=KT.trans hk
 clear hk
 refine tk 29 hHeld ?_
 refine tk 30 hHeld ?_
 refine tk 31 hHeld ?_
 refine rdy 32 fun K hK => ?_
 go_simp
 refine (det_any uv.heap.size fb 2 (32:Int).toNat sa 2 sc Ss (matF (aL upa upb ua0 ua1 ua2 ua3 uc0 uc1 uc2 uc3)) [(0,0),(1,1)] V6 (HT.out _ KT).2.2.2 (Ba.last_ne HF.out.piv) (by omega)).mono ?_
 rintro e V7 ⟨hk,sd,od,kd,cd,rfl,hd⟩
 refine hK.out _ _ (sS.out _ (KT.trans hk)) (fun hHeld => ?_)
 clear hK K
 have KT:=KT.trans hk
 have hd:=hd.zi
 clear hk
 refine rdy 33 fun K hK => ?_
 go_simp
 refine (of1_any 5 5 V7 rfl (by decide) (by decide)).mono ?_
 rintro e V8 ⟨hk,f4a,f4c,rfl,f4z⟩
 refine hK.out _ _ (sS.out _ (KT.trans hk)) (fun hHeld => ?_)
 clear hK K
 have KT:=KT.trans hk
 have hd:=hd.kept hk
 clear hk
 refine rdy 34 fun K hK => ?_
 go_simp
 refine (same_eq14 sd false od f4a kd cd 1 f4c _ _ V8 (by have h9:=hd; rw [aL_det] at h9; exact h9) (ze_zi f4z (by decide) (by decide)) rfl).mono ?_
 rintro e V9 ⟨hk,rfl⟩
 refine hK.out _ _ (sS.out _ (KT.trans hk)) (fun hHeld => ?_)
 clear hK K
 have KT:=KT.trans hk
 clear hk
 refine tk 35 hHeld ?_
 refine tk 36 hHeld ?_
 refine tk 37 hHeld ?_
 refine tk 38 hHeld ?_
 refine tk 39 hHeld ?_
 refine tk 40 hHeld ?_
 refine tk 41 hHeld ?_
 refine tk 42 hHeld ?_
 refine tk 43 hHeld ?_
 refine tk 44 hHeld ?_
 refine tk 45 hHeld ?_
 refine tk 46 hHeld ?_
 refine tk 47 hHeld ?_
 refine tk 48 hHeld ?_
 refine _root_.Go.Proofs.YtdcfammglpebaaaGreat.dn ?_
 --%H
 go_wp2_with fail
 go_ret
 exact ⟨(HT.out _ KT).2.2.1,rfl⟩
end Bp
end Go.Proofs.YtdcfammglpebaaaGreat

namespace Go.Proofs.YtdcfammglpebaaaGreat
open Go.RowKit
open V (RowL RowL.alloc RowL.lt RowL.cell RowL.fz RowL.kept RowL.set RowL.far)
open Sp (hid vrow vrow_at vrow_len vrow_set vrow_congr ISl made_row make_ints info_parts)
open Sy
open Bm (ZI ZI.kept ZI.of MxR ZsR mxr_at mxr_kept zsr_at zsr_kept cel_at mOk)
open Ba (stg lastP pivs wideZ facS Fits)
namespace Bp
structure CV where
 p:Nat
 s:Bool
 ao:Option Addr
 k:Nat
 c:Nat
structure UnS (w0 wr:World) (g gw n i:Nat) (limbs:Nat) (Bs:List ZE) (rv:Nat→CV):Prop where
 kept:Kept w0 wr
 rows:RowL 34 wr g (vrow n fun j => if j < i then .slice (some ⟨(rv j).p,0,none⟩) 1 1 else .slice none 0 0)
 want:RowL 3 wr gw (vrow n fun j => if j < i then .int .i64 (j:Int) else .int .i64 0)
 row:∀ j,j < i→RowL 39 wr (rv j).p [.int .i64 (j:Int),.bool (rv j).s,.slice (rv j).ao (rv j).k (rv j).c]∧ZN 0 wr (rv j).s (.slice (rv j).ao (rv j).k (rv j).c) 1
 ok:∀ j,j < i→zsB Bs j = true∧wideZ limbs (zsF Bs j) = false
 lies:w0.heap.size≤g∧w0.heap.size≤gw
section
variable {w0 wr w':World} {g gw n i limbs:Nat} {Bs:List ZE} {rv:Nat→CV}
theorem UnS.later (h:UnS w0 wr g gw n i limbs Bs rv) (k:Kept wr w'):UnS w0 w' g gw n i limbs Bs rv :=
 ⟨h.kept.trans k,h.rows.kept k,h.want.kept k,fun j hj => ⟨(h.row j hj).1.kept k,(h.row j hj).2.kept k⟩,h.ok,h.lies⟩
theorem UnS.put (h:UnS w0 wr g gw n i limbs Bs rv) (v:CV) (hr:RowL 39 wr v.p [.int .i64 (i:Int),.bool v.s,.slice v.ao v.k v.c]) (hz:ZN 0 wr v.s (.slice v.ao v.k v.c) 1) (ho:zsB Bs i = true∧wideZ limbs (zsF Bs i) = false) :
  UnS w0 ((wr.setCell ⟨g,i,none⟩ (.slice (some ⟨v.p,0,none⟩) 1 1)).setCell ⟨gw,i,none⟩ (.int .i64 (i:Int))) g gw n (i + 1) limbs Bs (fun j => if j = i then v else rv j):=by
 have f1:=fun t (ht:34 ≠ t) => rowl_free h.rows ht
 have k1:KX (fun k => k = g) wr (wr.setCell ⟨g,i,none⟩ (.slice (some ⟨v.p,0,none⟩) 1 1)):=(KX.refl wr).setCell (T:=fun k => k = g) (p:=⟨g,i,none⟩) (.inl rfl) _
 have r1:=RowL_kx h.want k1 (f1 _ (by decide))
 have f2:=fun t (ht:3 ≠ t) => rowl_free r1 ht
 have k2:KX (fun k => k = gw) (wr.setCell ⟨g,i,none⟩ (.slice (some ⟨v.p,0,none⟩) 1 1)) ((wr.setCell ⟨g,i,none⟩ (.slice (some ⟨v.p,0,none⟩) 1 1)).setCell ⟨gw,i,none⟩ (.int .i64 (i:Int))):=(KX.refl _).setCell (T:=fun k => k = gw) (p:=⟨gw,i,none⟩) (.inl rfl) _
 have hl:=h.lies
 have hrow:∀ (t:TypeId) (p:Nat) (xs:List Value),34 ≠ t→3 ≠ t→RowL t wr p xs→RowL t ((wr.setCell ⟨g,i,none⟩ (.slice (some ⟨v.p,0,none⟩) 1 1)).setCell ⟨gw,i,none⟩ (.int .i64 (i:Int))) p xs:=fun t p xs h1 h2 r => RowL_kx (RowL_kx r k1 (f1 _ h1)) k2 (f2 _ h2)
 have hzn:∀ (s:Bool) (u:Value) (z:Int),ZN 0 wr s u z→ZN 0 ((wr.setCell ⟨g,i,none⟩ (.slice (some ⟨v.p,0,none⟩) 1 1)).setCell ⟨gw,i,none⟩ (.int .i64 (i:Int))) s u z:=fun s u z hz => (hz.kx k1 (f1 _ (by decide))).kx k2 (f2 _ (by decide))
 refine ⟨KX.kept (KX.kept h.kept k1 (fun k hk => by omega)) k2 (fun k hk => by omega),?_,?_,fun j hj => ?_,fun j hj => ?_,hl⟩
 ·
  have r:=RowL_kx (RowL.set h.rows i (.slice (some ⟨v.p,0,none⟩) 1 1)) k2 (f2 _ (by decide))
  rw [vrow_set] at r
  have e:(vrow n fun j => if j = i then Value.slice (some ⟨v.p,0,none⟩) 1 1 else if j < i then .slice (some ⟨(rv j).p,0,none⟩) 1 1 else .slice none 0 0) = vrow n fun j => if j < i + 1 then .slice (some ⟨(if j = i then v else rv j).p,0,none⟩) 1 1 else .slice none 0 0:=vrow_congr fun j _ => by
   by_cases e:j = i
   ·
    subst e
    rw [if_pos rfl,if_pos (by omega),if_pos rfl]
   ·
    rw [if_neg e,if_neg e]
    by_cases h1:j < i
    ·
     rw [if_pos h1,if_pos (by omega)]
    ·
     rw [if_neg h1,if_neg (by omega)]
  rw [e] at r
  exact r
 ·
  have r:=RowL.set r1 i (.int .i64 (i:Int))
  rw [vrow_set] at r
  have e:(vrow n fun j => if j = i then Value.int .i64 (i:Int) else if j < i then .int .i64 (j:Int) else .int .i64 0) = vrow n fun j => if j < i + 1 then .int .i64 (j:Int) else .int .i64 0:=vrow_congr fun j _ => by
   by_cases e:j = i
   ·
    subst e
    rw [if_pos rfl,if_pos (by omega)]
   ·
    rw [if_neg e]
    by_cases h1:j < i
    ·
     rw [if_pos h1,if_pos (by omega)]
    ·
     rw [if_neg h1,if_neg (by omega)]
  rw [e] at r
  exact r
 ·
  by_cases e:j = i
  ·
   subst e
   simp only [if_pos]
   exact ⟨hrow _ _ _ (by decide) (by decide) hr,hzn _ _ _ hz⟩
  ·
   simp only [if_neg e]
   have:=h.row j (by omega)
   exact ⟨hrow _ _ _ (by decide) (by decide) this.1,hzn _ _ _ this.2⟩
 ·
  by_cases e:j = i
  ·
   subst e; exact ho
  ·
   exact h.ok j (by omega)
end
def unL (n:Nat) (rv:Nat→CV):List LE:=(List.range n).map fun (j:Nat) => (⟨some ⟨(rv j).p,0,none⟩,1,[⟨(j:Int),⟨false,(rv j).ao,(rv j).c,[1]⟩⟩]⟩:LE)
end Bp
end Go.Proofs.YtdcfammglpebaaaGreat

namespace Go.Proofs.YtdcfammglpebaaaGreat
open Go.RowKit
open V (RowL RowL.alloc RowL.lt RowL.cell RowL.fz RowL.kept RowL.block RowL.set RowL.far)
open Sp (hid vrow vrow_at vrow_set own_kept own_keptK own_row own_shape own_cell info_parts only_refl)
open Sy
open Bm (MxR mOk)
open Ba (facS Fits)
namespace Bp
structure GrC (B:Nat) (w:World) (g n:Nat) (hs:Nat→Value) (L:Nat→List CE):Prop where
 base:B≤g
 row:RowL 34 w g (vrow n hs)
 own:∀ j,j < n→w.ownsRow B 39 3 (hs j) (L j).length ((L j).flatMap CE.cells)
 apart:∀ j k,j < n→k < n→j ≠ k→∀ b,(hs j).ownBlock = some b→(hs k).ownBlock ≠ some b
theorem GrC.kept {B:Nat} {w w':World} {g n:Nat} {hs:Nat→Value} {L:Nat→List CE} (h:GrC B w g n hs L) (k:Kept w w'):GrC B w' g n hs L :=
 ⟨h.base,h.row.kept k,fun j hj => own_keptK (h.own j hj) k,h.apart⟩
theorem GrC.congr {B:Nat} {w:World} {g n:Nat} {hs:Nat→Value} {L L':Nat→List CE} (h:GrC B w g n hs L) (e:∀ j,j < n→L j = L' j):GrC B w g n hs L' :=
 ⟨h.base,h.row,fun j hj => by rw [← e j hj]; exact h.own j hj,h.apart⟩
theorem GrC.new {n:Nat} (w:World) {B:Nat} (hB:B≤w.heap.size):GrC B (w.alloc (.cells (vrow n fun _ => .slice none 0 0).toArray 34)) w.heap.size n (fun _ => .slice none 0 0) (fun _ => []) :=
 ⟨hB,RowL.alloc 34 w _,fun _ _ => World.ownsRow_nil _ _ _ _,fun _ _ _ _ _ _ hb => by cases hb⟩
theorem own_snoc {B:Nat} {w:World} {v:Value} {l:List CE} {x:CE} (h:w.ownsRow B 39 3 v (l.length + 1) (l.flatMap CE.cells ++ x.cells)):w.ownsRow B 39 3 v (l ++ [x]).length ((l ++ [x]).flatMap CE.cells):=by
 rw [List.length_append,List.flatMap_append,List.flatMap_cons,List.flatMap_nil,List.append_nil]
 exact h
theorem GrC.push {B:Nat} {w W w5:World} {g n c:Nat} {hs:Nat→Value} {L:Nat→List CE} {x:CE} {G cap:Nat} (h:GrC B w g n hs L) (hc:c < n) (kA:Kept w W)
  (hO:w5.ownsRow B 39 3 (.slice (some ⟨G,0,none⟩) ((L c).length + 1) cap) ((L c).length + 1) ((L c).flatMap CE.cells ++ x.cells)) (hgr:W.grownBy w5 (hs c).ownBlock) (hG:(hs c).ownBlock = some G ∨ G = W.heap.size) :
  GrC B (w5.setCell ⟨g,c,none⟩ (.slice (some ⟨G,0,none⟩) ((L c).length + 1) cap)) g n (fun j => if j = c then .slice (some ⟨G,0,none⟩) ((L c).length + 1) cap else hs j) (fun j => if j = c then L c ++ [x] else L j):=by
 have hW:=h.kept kA
 have hne:(hs c).ownBlock ≠ some g:=own_row (hW.own c hc) hW.row (by decide)
 have r5:RowL 34 w5 g (vrow n hs):=hW.row.block (hgr.block g hW.row.lt (fun e => hne e.symm))
 have o5:∀ j,j < n→j ≠ c→w5.ownsRow B 39 3 (hs j) (L j).length ((L j).flatMap CE.cells):=fun j hj e => own_kept (hW.own j hj) (fun b hb => hgr.block b (World.ownsRow.lt (hW.own j hj) b hb).2 (fun e' => hW.apart j c hj hc e b hb e'.symm))
 have hset:∀ {v:Value} {l:List CE} (V:Value),w5.ownsRow B 39 3 v l.length (l.flatMap CE.cells)→(w5.setCell ⟨g,c,none⟩ V).ownsRow B 39 3 v l.length (l.flatMap CE.cells):=fun {v l} V ho => own_kept ho (fun b hb => ((only_refl g w5).set c V).block b (fun e => own_row ho r5 (by decide) (by rw [← e]; exact hb)))
 refine ⟨h.base,?_,fun j hj => ?_,fun j k hj hk hjk b hb => ?_⟩
 ·
  have:=r5.set c (.slice (some ⟨G,0,none⟩) ((L c).length + 1) cap)
  rw [vrow_set] at this
  exact this
 ·
  by_cases e:j = c
  ·
   rw [if_pos e,if_pos e]
   exact hset _ (own_snoc hO)
  ·
   rw [if_neg e,if_neg e]
   exact hset _ (o5 j hj e)
 ·
  have key:∀ i,i < n→i ≠ c→(hs i).ownBlock ≠ some G:=by
   intro i hi e he
   rcases hG with hG | hG
   ·
    exact hW.apart i c hi hc e G he hG
   ·
    have:=(World.ownsRow.lt (hW.own i hi) G he).2
    omega
  by_cases e:j = c
  ·
   rw [if_pos e] at hb
   rw [if_neg (fun e' => hjk (by rw [e,e']))]
   have hb:G = b:=by simpa [Value.ownBlock] using hb
   rw [← hb]
   exact key k hk (fun e' => hjk (by rw [e,e']))
  ·
   rw [if_neg e] at hb
   by_cases e':k = c
   ·
    rw [if_pos e']
    intro h2
    have h2:G = b:=by simpa [Value.ownBlock] using h2
    exact key j hj e (by rw [h2]; exact hb)
   ·
    rw [if_neg e']
    exact hW.apart j k hj hk hjk b hb
def avOf:Value→Option Addr × Nat
 | .slice a _ c => (a,c)
 | _ => (none,0)
end Bp
end Go.Proofs.YtdcfammglpebaaaGreat

namespace Go.Proofs.YtdcfammglpebaaaGreat
open Go.RowKit
open V (RowL RowL.alloc RowL.lt RowL.cell RowL.fz RowL.kept RowL.block RowL.set RowL.far)
open Sp (vrow vrow_at own_kept own_keptK own_row own_shape own_cell)
open Sy
open Bm (MxR mOk)
namespace Bp
def keyE (c:CE):Int × Bool × List Nat:=(c.col,c.val.neg,c.val.lim)
def lL (n:Nat) (hs:Nat→Value) (C:Nat→List CE):List LE:=(List.range n).map fun c => ⟨(avOf (hs c)).1,(avOf (hs c)).2,C c⟩
theorem own_some {B:Nat} {w:World} {e:TypeId} {sz n c G k:Nat} {xs:List Value} (h:w.ownsRow B e sz (.slice (some ⟨G,0,none⟩) n c) n xs) (hk:k < n * sz):∃ x,w.cell? ⟨G,k,none⟩ = some x:=⟨_,(h.cellAt k hk).trans (List.getElem?_eq_getElem (by rw [h.1]; exact hk))⟩
end Bp
end Go.Proofs.YtdcfammglpebaaaGreat

namespace Go.Proofs.YtdcfammglpebaaaGreat
open Go.RowKit
open V (RowL RowL.alloc RowL.lt RowL.cell RowL.fz RowL.kept RowL.set RowL.far)
open Sp (hid own_kept own_keptK own_shape info_parts)
namespace Bp
def DX (A:Nat→Prop) (K:Nat) (w:World) (s:Bool) (v:Value) (z:Int):Prop :=
 D.NIs w s v z∧∃ ao k cap,v = .slice ao k cap∧k≤K∧(0 < k→∀ b o p,ao = some ⟨b,o,p⟩→¬ A b)
theorem dsl_len {w:World} {ao:Option Addr} {k cap:Nat} {l:List Nat} (h:D.Sl w (.slice ao k cap) l):k = l.length:=by
 obtain ⟨_,_,_,e,_⟩:=h
 injection e
theorem DX.kx {A:Nat→Prop} {K:Nat} {w w':World} {s:Bool} {v:Value} {z:Int} (h:DX A K w s v z) (k:KX A w w'):DX A K w' s v z:=by
 obtain ⟨⟨l,⟨hb,ao,cap,rfl,hx⟩,hr,hi⟩,ao',k',cap',e,hk,ha⟩:=h
 cases e
 refine ⟨⟨l,⟨hb,ao,cap,rfl,fun h0 => ?_⟩,hr,hi⟩,ao,_,cap,rfl,hk,ha⟩
 obtain ⟨h1,b,off,rfl,hlt,hc⟩:=hx h0
 refine ⟨h1,b,off,rfl,Nat.lt_of_lt_of_le hlt k.size,fun j hj => ?_⟩
 rw [World.cell?_of_block (k.block b hlt (ha h0 b off none rfl))]
 exact hc j hj
theorem DX.kept {A:Nat→Prop} {K:Nat} {w w':World} {s:Bool} {v:Value} {z:Int} (h:DX A K w s v z) (k:Kept w w'):DX A K w' s v z:=h.kx (KX.of k)
theorem DX.mono {A A':Nat→Prop} {K K':Nat} {w:World} {s:Bool} {v:Value} {z:Int} (h:DX A K w s v z) (hA:∀ q,A' q→A q) (hK:K≤K'):DX A' K' w s v z:=by
 obtain ⟨h1,ao,k,cap,e,hk,ha⟩:=h
 exact ⟨h1,ao,k,cap,e,Nat.le_trans hk hK,fun h0 b o p e hq => ha h0 b o p e (hA b hq)⟩
theorem DX.add {A:Nat→Prop} {K:Nat} {w:World} {s:Bool} {v:Value} {z:Int} (h:DX A K w s v z):DX (fun q => A q ∨ w.heap.size≤q) K w s v z:=by
 obtain ⟨h1,ao,k,cap,rfl,hk,ha⟩:=h
 refine ⟨h1,ao,k,cap,rfl,hk,fun h0 b o p e hq => ?_⟩
 rcases hq with hq | hq
 ·
  exact ha h0 b o p e hq
 ·
  obtain ⟨l,hs,_⟩:=h1
  have hl:=dsl_len hs
  obtain ⟨_,ao2,cap2,e2,hx⟩:=hs
  injection e2 with e2 _ _
  obtain ⟨_,b2,o2,e3,hlt,_⟩:=hx (by omega)
  rw [e,e3] at e2
  injection e2 with e2
  injection e2 with e2
  omega
theorem DX.of {K:Nat} {w:World} {s:Bool} {ao:Option Addr} {k cap:Nat} {z:Int} (h:D.NIs w s (.slice ao k cap) z) (hk:k≤K):DX (fun _ => False) K w s (.slice ao k cap) z:=⟨h,ao,k,cap,rfl,hk,fun _ _ _ _ _ h => h⟩
theorem DX.nought (A:Nat→Prop) (K:Nat) (w:World):DX A K w false (.slice none 0 0) 0:=⟨⟨[],D.Sl.nil w none 0,⟨D.Bd_nil,(.inl rfl),fun _ => rfl⟩,rfl⟩,none,0,0,rfl,Nat.zero_le _,fun h => absurd h (by decide)⟩
def RdX (A:Nat→Prop) (K:Nat) (zs:Nat→Int) (w:World) (v:Value) (n:Nat):Prop :=
 ∃ ao cap,v = .slice ao n cap∧(0 < n→∃ b off:Nat,ao = some ⟨b,off,none⟩∧b < w.heap.size∧¬ A b∧∀ j,j < n→∃ s so sk sc,w.cell? ⟨b,off + j * 2,none⟩ = some (.bool s)∧w.cell? ⟨b,off + j * 2 + 1,none⟩ = some (.slice so sk sc)∧DX A K w s (.slice so sk sc) (zs j))
section
variable {A A':Nat→Prop} {K K' n:Nat} {zs zs':Nat→Int} {w w':World} {v:Value}
theorem RdX.kx (h:RdX A K zs w v n) (k:KX A w w'):RdX A K zs w' v n:=by
 obtain ⟨ao,cap,rfl,h⟩:=h
 refine ⟨ao,cap,rfl,fun h0 => ?_⟩
 obtain ⟨b,off,rfl,hb,hA,hc⟩:=h h0
 have hh:=k.block b hb hA
 refine ⟨b,off,rfl,Nat.lt_of_lt_of_le hb k.size,hA,fun j hj => ?_⟩
 obtain ⟨s,so,sk,sc,h1,h2,h3⟩:=hc j hj
 exact ⟨s,so,sk,sc,(World.cell?_of_block (a:=⟨b,off + j * 2,none⟩) hh).trans h1,(World.cell?_of_block (a:=⟨b,off + j * 2 + 1,none⟩) hh).trans h2,h3.kx k⟩
theorem RdX.kept (h:RdX A K zs w v n) (k:Kept w w'):RdX A K zs w' v n:=h.kx (KX.of k)
theorem RdX.mono (h:RdX A K zs w v n) (hA:∀ q,A' q→A q) (hK:K≤K'):RdX A' K' zs w v n:=by
 obtain ⟨ao,cap,rfl,h⟩:=h
 refine ⟨ao,cap,rfl,fun h0 => ?_⟩
 obtain ⟨b,off,rfl,hb,hn,hc⟩:=h h0
 refine ⟨b,off,rfl,hb,fun h => hn (hA b h),fun j hj => ?_⟩
 obtain ⟨s,so,sk,sc,h1,h2,h3⟩:=hc j hj
 exact ⟨s,so,sk,sc,h1,h2,h3.mono hA hK⟩
theorem RdX.congr (h:RdX A K zs w v n) (e:∀ j,j < n→zs j = zs' j):RdX A K zs' w v n:=by
 obtain ⟨ao,cap,rfl,h⟩:=h
 refine ⟨ao,cap,rfl,fun h0 => ?_⟩
 obtain ⟨b,off,rfl,hb,hn,hc⟩:=h h0
 refine ⟨b,off,rfl,hb,hn,fun j hj => ?_⟩
 rw [← e j hj]
 exact hc j hj
theorem RdX.add (h:RdX A K zs w v n):RdX (fun q => A q ∨ w.heap.size≤q) K zs w v n:=by
 obtain ⟨ao,cap,rfl,h⟩:=h
 refine ⟨ao,cap,rfl,fun h0 => ?_⟩
 obtain ⟨b,off,rfl,hb,hn,hc⟩:=h h0
 refine ⟨b,off,rfl,hb,fun h => h.elim hn (fun h => by omega),fun j hj => ?_⟩
 obtain ⟨s,so,sk,sc,h1,h2,h3⟩:=hc j hj
 exact ⟨s,so,sk,sc,h1,h2,h3.add⟩
theorem RdX.at {ao:Option Addr} {cap:Nat} (h:RdX A K zs w (.slice ao n cap) n) {j:Nat} (hj:j < n):∃ b off s so sk sc,ao = some ⟨b,off,none⟩∧b < w.heap.size∧¬ A b∧(∀ V,KX A w V→V.cell? ⟨b,off + j * 2,none⟩ = some (.bool s)∧V.cell? ⟨b,off + j * 2 + 1,none⟩ = some (.slice so sk sc))∧DX A K w s (.slice so sk sc) (zs j)∧sk≤K:=by
 obtain ⟨_,_,e,h⟩:=h
 cases e
 obtain ⟨b,off,rfl,hb,hn,hc⟩:=h (by omega)
 obtain ⟨s,so,sk,sc,h1,h2,h3⟩:=hc j hj
 refine ⟨b,off,s,so,sk,sc,rfl,hb,hn,fun V k => ?_,h3,?_⟩
 ·
  have hh:=k.block b hb hn
  exact ⟨(World.cell?_of_block (a:=⟨b,off + j * 2,none⟩) hh).trans h1,(World.cell?_of_block (a:=⟨b,off + j * 2 + 1,none⟩) hh).trans h2⟩
 ·
  obtain ⟨_,_,_,_,e,hk,_⟩:=h3
  cases e
  exact hk
theorem RdX.shape (h:RdX A K zs w v n):∃ ao cap,v = .slice ao n cap:=by
 obtain ⟨ao,cap,rfl,_⟩:=h
 exact ⟨ao,cap,rfl⟩
end
def NO (A:Nat→Prop) (P K:Nat) (zs:Nat→Int) (w:World) (v:Value) (n:Nat):Prop :=
 ∃ xs,w.ownsRow P 51 2 v n xs∧(∀ b,v.ownBlock = some b→¬ A b)∧∀ j,j < n→∃ s ao k cap,xs[j * 2]? = some (.bool s)∧xs[j * 2 + 1]? = some (.slice ao k cap)∧DX (fun q => A q ∨ v.ownBlock = some q) K w s (.slice ao k cap) (zs j)
section
variable {A:Nat→Prop} {P K n:Nat} {zs zs':Nat→Int} {w w' W W4:World} {v:Value}
theorem NO.nil (A:Nat→Prop) (P K:Nat) (zs:Nat→Int) (w:World):NO A P K zs w (.slice none 0 0) 0:=⟨[],World.ownsRow_nil _ _ _ _,(fun b h => by cases h),fun j hj => absurd hj (Nat.not_lt_zero _)⟩
theorem NO.kept (h:NO A P K zs w v n) (k:Kept w w'):NO A P K zs w' v n:=by
 obtain ⟨xs,ho,hA,hx⟩:=h
 refine ⟨xs,own_keptK ho k,hA,fun j hj => ?_⟩
 obtain ⟨s,ao,m,cap,x1,x2,x3⟩:=hx j hj
 exact ⟨s,ao,m,cap,x1,x2,x3.kept k⟩
theorem NO.congr (h:NO A P K zs w v n) (e:∀ j,j < n→zs j = zs' j):NO A P K zs' w v n:=by
 obtain ⟨xs,ho,hA,hx⟩:=h
 refine ⟨xs,ho,hA,fun j hj => ?_⟩
 rw [← e j hj]
 exact hx j hj
theorem NO.rdx (h:NO A P K zs w v n):RdX A K zs w v n:=by
 obtain ⟨xs,ho,hA,hx⟩:=h
 obtain ⟨ao,cap,rfl⟩:=own_shape ho
 refine ⟨ao,cap,rfl,fun h0 => ?_⟩
 rcases ho.2 with ⟨_,e⟩ | ⟨g,cap',cur,e,_⟩
 ·
  omega
 ·
  cases e
  refine ⟨g,0,rfl,(World.ownsRow.lt ho g rfl).2,hA g rfl,fun j hj => ?_⟩
  obtain ⟨s,so,sk,sc,x1,x2,x3⟩:=hx j hj
  exact ⟨s,so,sk,sc,by rw [Nat.zero_add]; exact (ho.cellAt _ (by omega)).trans x1,by rw [Nat.zero_add]; exact (ho.cellAt _ (by omega)).trans x2,x3.mono (fun q h => .inl h) (Nat.le_refl K)⟩
theorem NO.snoc {g4 cap4:Nat} {s:Bool} {ao:Option Addr} {k cap:Nat} (hA:∀ q,A q→q < W.heap.size) (xs:List Value) (hl:xs.length = n * 2) (hv:∀ b,v.ownBlock = some b→¬ A b)
  (hx:∀ j,j < n→∃ s ao k cap,xs[j * 2]? = some (.bool s)∧xs[j * 2 + 1]? = some (.slice ao k cap)∧DX (fun q => A q ∨ v.ownBlock = some q) K W s (.slice ao k cap) (zs j))
  (hz:DX (fun q => A q ∨ v.ownBlock = some q) K W s (.slice ao k cap) (zs n)) (ho:W4.ownsRow P 51 2 (.slice (some ⟨g4,0,none⟩) (n + 1) cap4) (n + 1) (xs ++ [.bool s,.slice ao k cap])) (hg:W.grownBy W4 v.ownBlock) (hG:v.ownBlock = some g4 ∨ g4 = W.heap.size) :
  NO A P K zs W4 (.slice (some ⟨g4,0,none⟩) (n + 1) cap4) (n + 1):=by
 have kx:KX (fun q => A q ∨ v.ownBlock = some q) W W4:=(KX.grown hg).mono fun q hq => .inr hq.symm
 have up:∀ {s:Bool} {u:Value} {z:Int},DX (fun q => A q ∨ v.ownBlock = some q) K W s u z→DX (fun q => A q ∨ Value.ownBlock (.slice (some ⟨g4,0,none⟩) (n + 1) cap4) = some q) K W4 s u z:=fun h => by
  have h2:=(h.kx kx)
  refine DX.kx (w:=W) ?_ ((KX.grown hg).mono fun q hq => ?_) |>.mono (A:=fun q => A q ∨ v.ownBlock = some q ∨ q = g4) (fun q hq => ?_) (Nat.le_refl K)
  ·
   refine h.add.mono (fun q hq => ?_) (Nat.le_refl K)
   rcases hq with hq | hq | rfl
   ·
    exact .inl (.inl hq)
   ·
    exact .inl (.inr hq)
   ·
    rcases hG with e | e
    ·
     exact .inl (.inr e)
    ·
     exact .inr (by omega)
  ·
   exact .inr (.inl hq.symm)
  ·
   rcases hq with hq | hq
   ·
    exact .inl hq
   ·
    have:g4 = q:=by simpa [Value.ownBlock] using hq
    exact .inr (.inr this.symm)
 refine ⟨_,ho,fun b hb hq => ?_,fun j hj => ?_⟩
 ·
  have hb:g4 = b:=by simpa [Value.ownBlock] using hb
  subst hb
  rcases hG with e | e
  ·
   exact hv _ e hq
  ·
   have:=hA _ hq; omega
 ·
  by_cases e:j < n
  ·
   obtain ⟨s',ao',k',cap',x1,x2,x3⟩:=hx j e
   exact ⟨s',ao',k',cap',by rw [List.getElem?_append_left (by omega)]; exact x1,by rw [List.getElem?_append_left (by omega)]; exact x2,up x3⟩
  ·
   obtain rfl:j = n:=by omega
   refine ⟨s,ao,k,cap,?_,?_,up hz⟩
   ·
    rw [List.getElem?_append_right (by omega),hl,Nat.sub_self]; rfl
   ·
    rw [List.getElem?_append_right (by omega),hl,show j * 2 + 1 - j * 2 = 1 by omega]; rfl
theorem NO.put {g c j:Nat} {s:Bool} {ao:Option Addr} {k cap:Nat} {z:Int} (h:NO A P K zs w (.slice (some ⟨g,0,none⟩) n c) n) (hj:j < n) (hz:DX (fun q => A q ∨ q = g) K w s (.slice ao k cap) z) :
  NO A P K (upd zs j z) ((w.setCell ⟨g,j * 2,none⟩ (.bool s)).setCell ⟨g,j * 2 + 1,none⟩ (.slice ao k cap)) (.slice (some ⟨g,0,none⟩) n c) n:=by
 obtain ⟨xs,ho,hA,hx⟩:=h
 have kx:KX (fun q => q = g) w ((w.setCell ⟨g,j * 2,none⟩ (.bool s)).setCell ⟨g,j * 2 + 1,none⟩ (.slice ao k cap)):=((KX.refl w).setCell (T:=fun k => k = g) (p:=⟨g,j * 2,none⟩) (.inl rfl) _).setCell (p:=⟨g,j * 2 + 1,none⟩) (.inl rfl) _
 have ho2:=((ho.stored (j * 2) (.bool s)).1.stored (j * 2 + 1) (.slice ao k cap)).1
 have hlen:xs.length = n * 2:=ho.1
 have up:∀ {s9:Bool} {u:Value} {z:Int},DX (fun q => A q ∨ q = g) K w s9 u z→DX (fun q => A q ∨ Value.ownBlock (.slice (some ⟨g,0,none⟩) n c) = some q) K ((w.setCell ⟨g,j * 2,none⟩ (.bool s)).setCell ⟨g,j * 2 + 1,none⟩ (.slice ao k cap)) s9 u z:=fun h =>
  (h.kx (kx.mono fun q hq => .inr hq)).mono (fun q hq => Or.imp id (fun hq:Value.ownBlock (.slice (some ⟨g,0,none⟩) n c) = some q => (show g = q by simpa [Value.ownBlock] using hq).symm) hq) (Nat.le_refl K)
 refine ⟨_,ho2,hA,fun i hi => ?_⟩
 by_cases e:i = j
 ·
  subst e
  refine ⟨s,ao,k,cap,?_,?_,?_⟩
  ·
   rw [List.getElem?_set_ne (by omega),List.getElem?_set_self (by omega)]
  ·
   rw [List.getElem?_set_self (by rw [List.length_set]; omega)]
  ·
   unfold upd; rw [if_pos rfl]; exact up hz
 ·
  obtain ⟨s',ao',k',cap',x1,x2,x3⟩:=hx i hi
  refine ⟨s',ao',k',cap',?_,?_,?_⟩
  ·
   rw [List.getElem?_set_ne (by omega),List.getElem?_set_ne (by omega)]; exact x1
  ·
   rw [List.getElem?_set_ne (by omega),List.getElem?_set_ne (by omega)]; exact x2
  ·
   unfold upd; rw [if_neg e]; exact up (x3.mono (fun q hq => Or.imp id (fun hq:q = g => by rw [hq]; rfl) hq) (Nat.le_refl K))
end
theorem und_rns:Tryz.prog.underlying 52 = some (.slice 51):=by kernel_rfl
theorem info_rn:(Tryz.prog.info? 51).map (fun i => (i.zero,i.size,i.bytes)) = some (some (.agg #[.bool false,.slice none 0 0]),2,32):=by kernel_rfl
theorem make_ns {A:Nat→Prop} {K n:Nat} (hn:n≤1000000) (u:World) (hA:∀ q,A q→q < u.heap.size):∃ W,(Instr.makeSlice 52 (.int .i64 (n:Int)) (.int .i64 (n:Int))).run Tryz.prog u = .ok (.slice (some ⟨u.heap.size,0,none⟩) n n) W∧Kept u W∧W.heap.size = u.heap.size + 1∧NO A u.heap.size K (fun _ => 0) W (.slice (some ⟨u.heap.size,0,none⟩) n n) n:=by
 obtain ⟨i0,hi,hz0,hz1,hz2⟩:=info_parts info_rn
 have h:=run_make (P:=Tryz.prog) u 52 51 i0 (.agg #[.bool false,.slice none 0 0]) und_rns hi hz0 .i64 .i64 (n:Int) (n:Int) (by omega) (Int.le_refl _) (by rw [hz2]; omega) (by omega)
 simp only [Int.toNat_natCast,hz1] at h
 refine ⟨_,h,(Kept.refl u).alloc _,by simp,(madeCells (Value.agg #[.bool false,.slice none 0 0]).cells (n * 2)).toList,⟨by rw [Array.length_toList,size_madeCells],.inr ⟨u.heap.size,n,madeCells (Value.agg #[.bool false,.slice none 0 0]).cells (n * 2),rfl,Nat.le_refl _,heap_alloc_new u _,Nat.le_refl _,by unfold maxLen; omega,size_madeCells _ _,List.take_of_length_le (by rw [Array.length_toList,size_madeCells]; exact Nat.le_refl _)⟩⟩,fun b hb hq => ?_,fun j hj => ⟨false,none,0,0,?_,?_,DX.nought _ _ _⟩⟩
 ·
  have hb:u.heap.size = b:=by simpa [Value.ownBlock] using hb
  have:=hA b hq
  omega
 ·
  rw [made_at _ _ _ (by omega),show (j * 2) % (Value.agg #[.bool false,.slice none 0 0]).cells.size = 0 from Nat.mul_mod_left j 2]
  rfl
 ·
  rw [made_at _ _ _ (by omega),show (j * 2 + 1) % (Value.agg #[.bool false,.slice none 0 0]).cells.size = 1 from by show (j * 2 + 1) % 2 = 1; omega]
  rfl
def MO (P K m:Nat) (F:Nat→Nat→Int) (w:World) (v:Value) (n:Nat):Prop :=
 ∃ hs:List Value,w.ownsRow P 52 1 v n hs∧∀ i,i < n→∃ ra rc,hs[i]? = some (.slice ra m rc)∧RdX (fun q => v.ownBlock = some q) K (F i) w (.slice ra m rc) m
def MN (K m:Nat) (F:Nat→Nat→Int) (w:World) (v:Value) (n:Nat):Prop :=
 ∃ ao cap,v = .slice ao n cap∧(0 < n→∃ b off:Nat,ao = some ⟨b,off,none⟩∧b < w.heap.size∧∀ i,i < n→∃ ra rc,w.cell? ⟨b,off + i,none⟩ = some (.slice ra m rc)∧RdX (fun _ => False) K (F i) w (.slice ra m rc) m)
section
variable {P K m n:Nat} {F F':Nat→Nat→Int} {w w' W W4:World} {v:Value}
theorem MO.nil (P K m:Nat) (F:Nat→Nat→Int) (w:World):MO P K m F w (.slice none 0 0) 0:=⟨[],World.ownsRow_nil _ _ _ _,fun _ hj => absurd hj (Nat.not_lt_zero _)⟩
theorem MO.kept (h:MO P K m F w v n) (k:Kept w w'):MO P K m F w' v n:=by
 obtain ⟨hs,ho,hx⟩:=h
 refine ⟨hs,own_keptK ho k,fun i hi => ?_⟩
 obtain ⟨ra,rc,x1,x2⟩:=hx i hi
 exact ⟨ra,rc,x1,x2.kept k⟩
theorem MO.congr (h:MO P K m F w v n) (e:∀ i,i < n→∀ j,j < m→F i j = F' i j):MO P K m F' w v n:=by
 obtain ⟨hs,ho,hx⟩:=h
 refine ⟨hs,ho,fun i hi => ?_⟩
 obtain ⟨ra,rc,x1,x2⟩:=hx i hi
 exact ⟨ra,rc,x1,x2.congr (e i hi)⟩
theorem MO.mn (h:MO P K m F w v n):MN K m F w v n:=by
 obtain ⟨hs,ho,hx⟩:=h
 obtain ⟨ao,cap,rfl⟩:=own_shape ho
 refine ⟨ao,cap,rfl,fun h0 => ?_⟩
 rcases ho.2 with ⟨_,e⟩ | ⟨g,cap',cur,e,_⟩
 ·
  omega
 ·
  cases e
  refine ⟨g,0,rfl,(World.ownsRow.lt ho g rfl).2,fun i hi => ?_⟩
  obtain ⟨ra,rc,x1,x2⟩:=hx i hi
  exact ⟨ra,rc,by rw [Nat.zero_add]; exact (ho.cellAt _ (by omega)).trans x1,x2.mono (fun q h => h.elim) (Nat.le_refl K)⟩
theorem MO.snoc {g4 cap4:Nat} {ra:Option Addr} {rc:Nat} (hs:List Value) (hl:hs.length = n)
  (hx:∀ i,i < n→∃ ra rc,hs[i]? = some (.slice ra m rc)∧RdX (fun q => v.ownBlock = some q) K (F i) W (.slice ra m rc) m)
  (hz:RdX (fun q => v.ownBlock = some q) K (F n) W (.slice ra m rc) m) (ho:W4.ownsRow P 52 1 (.slice (some ⟨g4,0,none⟩) (n + 1) cap4) (n + 1) (hs ++ [.slice ra m rc])) (hg:W.grownBy W4 v.ownBlock) (hG:v.ownBlock = some g4 ∨ g4 = W.heap.size) :
  MO P K m F W4 (.slice (some ⟨g4,0,none⟩) (n + 1) cap4) (n + 1):=by
 have up:∀ {u:Value} {zs:Nat→Int},RdX (fun q => v.ownBlock = some q) K zs W u m→RdX (fun q => Value.ownBlock (.slice (some ⟨g4,0,none⟩) (n + 1) cap4) = some q) K zs W4 u m:=fun h => by
  refine RdX.mono (A:=fun q => v.ownBlock = some q ∨ q = g4) (RdX.kx (w:=W) ?_ ((KX.grown hg).mono fun q hq => .inl hq.symm)) (fun q hq => ?_) (Nat.le_refl K)
  ·
   refine h.add.mono (fun q hq => ?_) (Nat.le_refl K)
   rcases hq with hq | rfl
   ·
    exact .inl hq
   ·
    rcases hG with e | e
    ·
     exact .inl e
    ·
     exact .inr (by omega)
  ·
   have:g4 = q:=by simpa [Value.ownBlock] using hq
   exact .inr this.symm
 refine ⟨_,ho,fun j hj => ?_⟩
 by_cases e:j < n
 ·
  obtain ⟨ra',rc',x1,x2⟩:=hx j e
  exact ⟨ra',rc',by rw [List.getElem?_append_left (by omega)]; exact x1,up x2⟩
 ·
  obtain rfl:j = n:=by omega
  refine ⟨ra,rc,?_,up hz⟩
  rw [List.getElem?_append_right (by omega),hl,Nat.sub_self]; rfl
theorem MN.kept (h:MN K m F w v n) (k:Kept w w'):MN K m F w' v n:=by
 obtain ⟨ao,cap,rfl,h⟩:=h
 refine ⟨ao,cap,rfl,fun h0 => ?_⟩
 obtain ⟨b,off,rfl,hb,hc⟩:=h h0
 refine ⟨b,off,rfl,Nat.lt_of_lt_of_le hb k.size,fun i hi => ?_⟩
 obtain ⟨ra,rc,x1,x2⟩:=hc i hi
 exact ⟨ra,rc,by rw [Below.cell k (p:=⟨b,off + i,none⟩) hb]; exact x1,x2.kept k⟩
theorem MN.congr (h:MN K m F w v n) (e:∀ i,i < n→∀ j,j < m→F i j = F' i j):MN K m F' w v n:=by
 obtain ⟨ao,cap,rfl,h⟩:=h
 refine ⟨ao,cap,rfl,fun h0 => ?_⟩
 obtain ⟨b,off,rfl,hb,hc⟩:=h h0
 refine ⟨b,off,rfl,hb,fun i hi => ?_⟩
 obtain ⟨ra,rc,x1,x2⟩:=hc i hi
 exact ⟨ra,rc,x1,x2.congr (e i hi)⟩
theorem MN.at {ao:Option Addr} {cap:Nat} (h:MN K m F w (.slice ao n cap) n) {i:Nat} (hi:i < n):∃ b off ra rc,ao = some ⟨b,off,none⟩∧b < w.heap.size∧(∀ V,Kept w V→V.cell? ⟨b,off + i,none⟩ = some (.slice ra m rc))∧RdX (fun _ => False) K (F i) w (.slice ra m rc) m:=by
 obtain ⟨_,_,e,h⟩:=h
 cases e
 obtain ⟨b,off,rfl,hb,hc⟩:=h (by omega)
 obtain ⟨ra,rc,x1,x2⟩:=hc i hi
 exact ⟨b,off,ra,rc,rfl,hb,fun V k => by rw [Below.cell k (p:=⟨b,off + i,none⟩) hb]; exact x1,x2⟩
theorem MN.shape (h:MN K m F w v n):∃ ao cap,v = .slice ao n cap:=by
 obtain ⟨ao,cap,rfl,_⟩:=h
 exact ⟨ao,cap,rfl⟩
end
end Bp
end Go.Proofs.YtdcfammglpebaaaGreat

namespace Go.Proofs.YtdcfammglpebaaaGreat
open Go.RowKit
open V (RowL RowL.alloc RowL.lt RowL.cell RowL.fz RowL.kept RowL.set RowL.far)
open Sp (hid own_kept own_keptK own_shape info_parts)
open Sy
open Bm (MxR ZsR mxr_at mxr_kept zsr_at zsr_kept cel_at mOk)
namespace Bp
theorem dx_new {A:Nat→Prop} {K:Nat} {w w':World} {s:Bool} {ao:Option Addr} {k cap:Nat} {z:Int} (h:D.NIs w' s (.slice ao k cap) z) (hk:k≤K) (hn:0 < k→∃ b,ao = some ⟨b,0,none⟩∧w.heap.size≤b) (hA:∀ q,A q→q < w.heap.size):DX A K w' s (.slice ao k cap) z :=
 ⟨h,ao,k,cap,rfl,hk,fun h0 b o p e hq => by
  obtain ⟨b',e',hb⟩:=hn h0
  rw [e'] at e
  injection e with e
  injection e with e
  have:=hA _ hq
  omega⟩
set_option maxRecDepth 100000 in
set_option maxHeartbeats 40000000 in
theorem take14_any (bo:Option Addr) (n cap:Nat) (Bs:List ZE) (w:World) (h:ZsR w bo Bs) (hl:n = Bs.length) (hn:n≤61) (hr:∀ j,j < n→zsB Bs j = true) :
  Calls Tryz.prog 27 #[.slice bo n cap] w fun e w' => Kept w w'∧∃ ao cap',e = .returned (.slice ao n cap')∧RdX (fun _ => False) 144 (zsF Bs) w' (.slice ao n cap') n:=by
 have HL:=hid (And.intro h (And.intro hl hr))
 clear h hl hr
 obtain ⟨i0,hi0,hz0,hz1,hz2⟩:=info_parts info_rn
 go_enter Tryz.func27,Tryz.ntmps27
 --%A
 go_wp2_with fail
 go_loopw [3,4] (fun v3 v4 wr => ∃ i:Nat,i≤n∧v4 = .int .i64 (i:Int)∧Hid (Kept w wr)∧Hid (NO (fun _ => False) w.heap.size 144 (zsF Bs) wr v3 i)) (fun _ v4 _ => n - (intOf v4).toNat)
 case atStart => exact ⟨0,Nat.zero_le _,rfl,Kept.refl _,NO.nil _ _ _ _ _⟩
 case round =>
  obtain ⟨i,hi,rfl,HK,HN⟩:=hrel
  generalize wr = w4 at HK HN ⊢
  by_cases hit:i < n
  ·
   have hii:(i:Int) < (n:Int):=by omega
   have hi0':(0:Int)≤(i:Int):=by omega
   have hiB:i < Bs.length:=by have:=HL.out.2.1; omega
   obtain ⟨b1,o1,m1,zo1,zc1,zl1,rfl,hB1,hcb,okb⟩:=zsr_at (zsr_kept HL.out.1 HK.out) hiB
   have c1:=(hcb w4 (Kept.refl _)).1
   have c2:=(hcb w4 (Kept.refl _)).2
   have hrr:zsB Bs i = true:=HL.out.2.2 i hit
   have hzv:zsF Bs i = M.int m1 zl1:=by unfold zsF; rw [getD_in hiB,hB1]
   unfold zsB at hrr
   rw [getD_in hiB,hB1] at hrr
   have hle:=(right_R.1 hrr).1
   have hle:zl1.length≤72:=hle
   obtain ⟨zk,hzk⟩:∃ l,l = zl1.length:=⟨_,rfl⟩
   have htk:=D.Take_new m1 zo1 zk zc1 zl1 w4 (by rw [hzk]; exact okb.1) (by omega)
   rw [← hzk] at c2
   have HZ:=hid (And.intro hzk (And.intro hzv hle))
   clear hcb okb hB1 hzk hrr hzv hle
   --%B
   go_wp2_with fail
   refine htk.mono ?_
   rintro e w5 ⟨hk,s,ao,k,cp,rfl,hni,hkk,hnw⟩
   obtain ⟨xs,ho,hA,hx⟩:=HN.out
   have H4:=hid (And.intro (HK.out.trans hk) (And.intro (own_keptK ho hk) (And.intro hA (fun j (hj:j < i) => by
    obtain ⟨s,ao,k,cap,e1,e2,e3⟩:=hx j hj
    exact (⟨s,ao,k,cap,e1,e2,e3.kept hk⟩:∃ s ao k cap,xs[j * 2]? = some (.bool s)∧xs[j * 2 + 1]? = some (.slice ao k cap)∧DX (fun q => False ∨ Value.ownBlock u3 = some q) 144 w5 s (.slice ao k cap) (zsF Bs j))))))
   have hd:DX (fun q => False ∨ Value.ownBlock u3 = some q) 144 w5 s (.slice ao k cp) (zsF Bs i):=by
    rw [HZ.out.2.1]
    refine dx_new hni (by have:=HZ.out.1; have:=HZ.out.2.2; omega) hnw (fun q hq => hq.elim (fun h => h.elim) fun hq => (World.ownsRow.lt ho q hq).2)
   have HD:=hid hd
   have hws:w.heap.size≤w5.heap.size:=(HK.out.trans hk).size
   clear ho hA hx hk hni hkk hnw hd htk c1 c2
   --%C
   go_wp2_with (at_builtin; refine wpList_append_lies _ rfl (.tmp 11) (.tmp 17) 52 rfl w.heap.size 51 i0 (.agg #[.bool false,.slice none 0 0]) 2 32 und_rns hi0 hz0 hz1 hz2 rfl (by decide) u3 i xs rfl (by exact World.ownsRow.alloc H4.out.2.1 _) ⟨w5.heap.size,0,none⟩ 1 1 [.bool s,.slice ao k cp] rfl rfl (cell2 w5 _ _ _) (fun u hu => by simp at hu; rcases hu with rfl | rfl <;> rfl) (by omega) (by unfold maxLen; omega) (by omega) (by simp; omega) _ rfl ?_)
   intro G cap2 w6 hO hgr hG _
   have kA:=(Kept.refl w5).alloc (.cells #[.bool s,.slice ao k cp] 51)
   have hOw:=World.ownsRow.alloc H4.out.2.1 (.cells #[.bool s,.slice ao k cp] 51)
   have hG:u3.ownBlock = some G ∨ G = (w5.alloc (.cells #[.bool s,.slice ao k cp] 51)).heap.size:=hG.imp id fun e => by rw [alloc_sz]; exact e
   generalize w5.alloc (.cells #[.bool s,.slice ao k cp] 51) = W5 at kA hgr hOw hG
   have KW:Kept w w6:=Below.grown (H4.out.1.trans kA) hgr (H4.out.1.trans kA).size (fun q hq => (World.ownsRow.lt hOw q hq).1)
   have HNn:=hid (And.intro KW (NO.snoc (A:=fun _ => False) (zs:=zsF Bs) (fun q h => h.elim) xs H4.out.2.1.1 H4.out.2.2.1 (fun j hj => by
    obtain ⟨s,ao,m,cap,e1,e2,e3⟩:=H4.out.2.2.2 j hj
    exact ⟨s,ao,m,cap,e1,e2,e3.kept kA⟩) (HD.out.kept kA) hO hgr hG))
   clear kA hOw hgr hO KW hG
   --%D
   go_wp2_with fail
   go_roundw
   case rel => exact ⟨i + 1,by omega,by go_num,HNn.out.1,HNn.out.2⟩
   case measure => show n - ((i:Int) + 1).toNat < n - (i:Int).toNat; omega
  ·
   have hii:¬ (i:Int) < (n:Int):=by omega
   obtain rfl:i = n:=by omega
   obtain ⟨ao,cap',e⟩:=HN.out.rdx.shape
   subst e
   --%E
   go_wp2_with fail
   go_ret
   exact ⟨HK.out,ao,cap',rfl,HN.out.rdx⟩
theorem cell1 (w:World) (t:TypeId) (a:Value):∀ j u,[a][j]? = some u→(w.alloc (.cells #[a] t)).cell? ((⟨w.heap.size,0,none⟩:Addr).add j) = some u:=fun j u hu => by
 match j,hu with
 | 0,hu => cases hu; simp [Addr.add]
theorem info_rns:(Tryz.prog.info? 52).map (fun i => (i.zero,i.size,i.bytes)) = some (some (.slice none 0 0),1,24):=by kernel_rfl
theorem und_rnss:Tryz.prog.underlying 45 = some (.slice 52):=by kernel_rfl
set_option maxRecDepth 100000 in
set_option maxHeartbeats 40000000 in
theorem square14_any (ao:Option Addr) (n cap:Nat) (L:List LE) (w:World) (h:MxR w ao L) (hl:n = L.length) (hok:mOk L = true) :
  Calls Tryz.prog 22 #[.slice ao n cap] w fun e w' => Kept w w'∧∃ bo cap',e = .returned (.slice bo n cap')∧MN 144 n (matF L) w' (.slice bo n cap') n:=by
 have hn:n≤48:=by
  unfold mOk at hok
  rw [Bool.and_eq_true,decide_eq_true_eq] at hok
  rw [hl]
  exact hok.1
 have HL:=hid (And.intro h (And.intro hl hok))
 clear h hl hok
 obtain ⟨i1,hi1,hy0,hy1,hy2⟩:=info_parts info_rns
 go_enter Tryz.func22,Tryz.ntmps22
 --%F
 go_wp2_with fail
 go_loopw [3,4] (fun v3 v4 wr => ∃ i:Nat,i≤n∧v4 = .int .i64 (i:Int)∧Hid (Kept w wr)∧Hid (MO w.heap.size 144 n (matF L) wr v3 i)) (fun _ v4 _ => n - (intOf v4).toNat)
 case atStart => exact ⟨0,Nat.zero_le _,rfl,Kept.refl _,MO.nil _ _ _ _ _⟩
 case round =>
  obtain ⟨i,hi,rfl,HK,HM⟩:=hrel
  generalize wr = w4 at HK HM ⊢
  by_cases hit:i < n
  ·
   have hii:(i:Int) < (n:Int):=by omega
   have hi0:(0:Int)≤(i:Int):=by omega
   have hiL:i < L.length:=by have:=HL.out.2.1; omega
   obtain ⟨b,off,ra,rc,cs,rfl,hrow,hc,hcs⟩:=mxr_at HL.out.1 hiL
   have HC:=hid (And.intro hc (And.intro hcs (And.intro (show (L.getD i l0).cs = cs by rw [getD_in hiL,hrow]) HL.out.1)))
   have hcok:cOk n (-1) cs = true:=by have:=mOk_row HL.out.2.2 i; rw [HC.out.2.2.1,← HL.out.2.1] at this; exact this
   have hHA:∀ q,u3.ownBlock = some q→q < w4.heap.size:=fun q hq => by
    obtain ⟨hs,ho,_⟩:=HM.out
    exact (World.ownsRow.lt ho q hq).2
   obtain ⟨W,hmk,hkW,hszW,hNO⟩:=make_ns (A:=fun q => u3.ownBlock = some q) (K:=144) (n:=n) (by omega) w4 hHA
   obtain ⟨g,hg⟩:∃ p,p = w4.heap.size:=⟨_,rfl⟩
   rw [← hg] at hmk hNO
   have c1:=hc W (HK.out.trans hkW)
   obtain ⟨rl,hrl⟩:∃ r,r = cs.length:=⟨_,rfl⟩
   rw [← hrl] at c1
   have HR:=hid (And.intro hrl (And.intro hcok (And.intro hHA hg)))
   have HI:=hid (And.intro hkW (show NO (fun q => u3.ownBlock = some q) w4.heap.size 144 (rowF (cs.take 0)) W (.slice (some ⟨g,0,none⟩) n n) n by rw [← hg]; exact hNO))
   have hrl48:rl≤48:=by
    have:=cOk_len hcok (by omega)
    omega
   clear hc hcs hrl hcok hHA hkW hNO hrow hg hszW
   --%G
   go_wp2_with fail
   clear hmk
   go_loopw [6] (fun v6 wr => ∃ k:Nat,k≤rl∧v6 = .int .i64 (k:Int)∧Hid (Kept w4 wr∧NO (fun q => u3.ownBlock = some q) w4.heap.size 144 (rowF (cs.take k)) wr (.slice (some ⟨g,0,none⟩) n n) n)) (fun v6 _ => rl - (intOf v6).toNat)
   case atStart => exact ⟨0,Nat.zero_le _,rfl,HI.out⟩
   case round =>
    clear HI c1
    obtain ⟨k,hkl,rfl,J⟩:=hrel
    generalize wr = w6 at J ⊢
    have c1:=HC.out.1 w6 (HK.out.trans J.out.1)
    rw [← HR.out.1] at c1
    by_cases hkt:k < rl
    ·
     have hkk:(k:Int) < (rl:Int):=by omega
     have hk0:(0:Int)≤(k:Int):=by omega
     have hkL:k < cs.length:=by have:=HR.out.1; omega
     obtain ⟨b2,o2,y,m,zo,zc,zl,rfl,hce,hcb,okb⟩:=cel_at HC.out.2.1 hkL
     have hg1:=cOk_get HR.out.2.1 k hkL
     rw [hce] at hg1
     have hg1:-1 < y∧y < (n:Int)∧ZE.right ⟨m,zo,zc,zl⟩ = true∧_:=hg1
     obtain ⟨c,rfl⟩:∃ c:Nat,y = (c:Int):=⟨y.toNat,by omega⟩
     have hcn:c < n:=by omega
     have hcn':(c:Int) < (n:Int):=hg1.2.1
     have hc0:(0:Int)≤(c:Int):=by omega
     have hle:zl.length≤72:=(right_R.1 hg1.2.2.1).1
     obtain ⟨zk',hzk⟩:∃ l,l = zl.length:=⟨_,rfl⟩
     have HZ:=hid (And.intro hzk (And.intro hle (And.intro hce (And.intro okb hkL))))
     have KT:Kept w6 w6.drew:=(Kept.refl _).drew
     have sS:=hid (fun (V:World) (K:Kept w V) => show (fun w':World => w'.cell? ⟨b,off + i,none⟩ = some (.slice (some ⟨b2,o2,none⟩) rl rc)∧w'.cell? ⟨b2,o2 + k * 3,none⟩ = some (.int .i64 (c:Int))∧w'.cell? ⟨b2,o2 + k * 3 + 1,none⟩ = some (.bool m)∧w'.cell? ⟨b2,o2 + k * 3 + 2,none⟩ = some (.slice zo zk' zc)) V from ⟨by rw [HR.out.1]; exact HC.out.1 V K,(hcb V K).1,(hcb V K).2.1,by rw [hzk]; exact (hcb V K).2.2⟩)
     have hfz:=(World.ownsRow.frozenAt (show w6.ownsRow w4.heap.size 51 2 (.slice (some ⟨g,0,none⟩) n n) n _ from J.out.2.choose_spec.1))
     clear hcb okb hce hzk hle hg1
     --%H
     go_upto_region 9 with fail
     clear c1
     refine wp_region_held_drew (S:=fun w' => w'.cell? ⟨b,off + i,none⟩ = some (.slice (some ⟨b2,o2,none⟩) rl rc)∧w'.cell? ⟨b2,o2 + k * 3,none⟩ = some (.int .i64 (c:Int))∧w'.cell? ⟨b2,o2 + k * 3 + 1,none⟩ = some (.bool m)∧w'.cell? ⟨b2,o2 + k * 3 + 2,none⟩ = some (.slice zo zk' zc)) (by kernel_rfl) (sS.out _ (HK.out.trans (J.out.1.trans KT))) (fun hHeld => ?_)
     generalize w6.drew = Wd at KT hHeld ⊢
     refine wk 0 hHeld ?_
     refine wk 1 hHeld ?_
     refine wk 2 hHeld ?_
     refine wk 3 hHeld ?_
     refine wk 4 hHeld ?_
     refine wk 5 hHeld ?_
     refine wk 6 hHeld ?_
     refine wk 7 hHeld ?_
     refine wk 8 hHeld ?_
     refine wk 9 hHeld ?_
     refine wk 10 hHeld ?_
     refine wk 11 hHeld ?_
     refine wk 12 hHeld ?_
     refine wk 13 hHeld ?_
     refine wk 14 hHeld ?_
     refine wk 15 hHeld ?_
     refine wk 16 hHeld ?_
     refine wpAnyH_ready (rs:=[17]) (by kernel_rfl) (by simp) ?_
     refine AllReadyH.cons rfl (fun K hK => ?_) AllReadyH.nil
     --%I
     go_simp
     refine (D.Take_new m zo zk' zc zl Wd (by rw [HZ.out.1]; exact HZ.out.2.2.2.1.1.kept (HK.out.trans (J.out.1.trans KT))) (by have:=HZ.out.2.1; omega)).mono ?_
     rintro e u1 ⟨hu1,s,o,kk,cp,rfl,hni,hkk9,hnw⟩
     refine hK.out _ _ (sS.out _ (HK.out.trans (J.out.1.trans (KT.trans hu1)))) (fun hHeld => ?_)
     clear hK K
     have KU:=KT.trans hu1
     have hgB:g < Wd.heap.size:=Nat.lt_of_lt_of_le (World.ownsRow.lt J.out.2.choose_spec.1 g rfl).2 KT.size
     have hNu:=J.out.2.kept KU
     have hput:=hNu.put hcn (dx_new (A:=fun q => u3.ownBlock = some q ∨ q = g) (K:=144) hni (by have:=HZ.out.1; have:=HZ.out.2.1; omega) hnw (fun q hq => hq.elim (fun h => Nat.lt_of_lt_of_le (HR.out.2.2.1 q h) (J.out.1.trans KT).size) fun h => by rw [h]; exact hgB))
     have hkp:Kept w4 ((u1.setCell ⟨g,c * 2,none⟩ (.bool s)).setCell ⟨g,c * 2 + 1,none⟩ (.slice o kk cp)):=((J.out.1.trans KU).setCell (by rw [HR.out.2.2.2]; exact Nat.le_refl _) _).setCell (by rw [HR.out.2.2.2]; exact Nat.le_refl _) _
     have HP:=hid (And.intro hkp hput)
     have hgf:=(World.ownsRow.frozenAt (show u1.ownsRow w4.heap.size 51 2 (.slice (some ⟨g,0,none⟩) n n) n _ from hNu.choose_spec.1))
     obtain ⟨xa,hxa⟩:=own_some hNu.choose_spec.1 (show c * 2 < n * 2 by omega)
     obtain ⟨xb,hxb⟩:=own_some hNu.choose_spec.1 (show c * 2 + 1 < n * 2 by omega)
     have f1:=hgf (c * 2)
     have f2:=hgf (c * 2 + 1)
     clear hgf hNu hput hkp hni hnw hu1 KU hgB KT hfz
     refine wk 18 hHeld ?_
     refine wpAnyH_ready (rs:=[19]) (by kernel_rfl) (by simp) ?_
     refine AllReadyH.cons rfl (fun K hK => ?_) AllReadyH.nil
     --%J
     go_simp
     refine hK.out _ _ (sS.out _ (HK.out.trans HP.out.1)) (fun hHeld => ?_)
     clear hK K
     refine wpAnyH_done (by kernel_rfl) ?_ _
     --%K
     go_wp2_with fail
     go_roundw
     case rel => exact ⟨k + 1,by omega,by go_num,HP.out.1,by rw [rowF_take HZ.out.2.2.2.2,HZ.out.2.2.1]; exact HP.out.2⟩
     case measure => show rl - ((k:Int) + 1).toNat < rl - (k:Int).toNat; omega
    ·
     have hkk:¬ (k:Int) < (rl:Int):=by omega
     obtain ⟨hs,ho,hx⟩:=HM.out.kept J.out.1
     have hrd:RdX (fun q => u3.ownBlock = some q) 144 (matF L i) w6 (.slice (some ⟨g,0,none⟩) n n) n:=by
      have:=J.out.2.rdx
      rw [List.take_of_length_le (by have:=HR.out.1; omega),← HC.out.2.2.1] at this
      exact this
     have H4:=hid (And.intro (HK.out.trans J.out.1) (And.intro ho (And.intro hx hrd)))
     have hws:w.heap.size≤w6.heap.size:=(HK.out.trans J.out.1).size
     clear ho hx hrd
     --%L
     go_wp2_with (at_builtin; refine wpList_append_lies _ rfl (.tmp 44) (.tmp 46) 45 rfl w.heap.size 52 i1 (.slice none 0 0) 1 24 und_rnss hi1 hy0 hy1 hy2 rfl (by decide) u3 i hs rfl (by exact World.ownsRow.alloc H4.out.2.1 _) ⟨w6.heap.size,0,none⟩ 1 1 [.slice (some ⟨g,0,none⟩) n n] rfl rfl (cell1 w6 _ _) (fun u hu => by simp at hu; rcases hu with rfl; rfl) (by omega) (by unfold maxLen; omega) (by omega) (by simp; omega) _ rfl ?_)
     intro G cap2 w7 hO hgr hG _
     have kA:=(Kept.refl w6).alloc (.cells #[.slice (some ⟨g,0,none⟩) n n] 52)
     have hOw:=World.ownsRow.alloc H4.out.2.1 (.cells #[.slice (some ⟨g,0,none⟩) n n] 52)
     have hG:u3.ownBlock = some G ∨ G = (w6.alloc (.cells #[.slice (some ⟨g,0,none⟩) n n] 52)).heap.size:=hG.imp id fun e => by rw [alloc_sz]; exact e
     generalize w6.alloc (.cells #[.slice (some ⟨g,0,none⟩) n n] 52) = W5 at kA hgr hOw hG
     have KW:Kept w w7:=Below.grown (H4.out.1.trans kA) hgr (H4.out.1.trans kA).size (fun q hq => (World.ownsRow.lt hOw q hq).1)
     have HNn:=hid (And.intro KW (MO.snoc (F:=matF L) hs (by have:=H4.out.2.1.1; omega) (fun j hj => by
      obtain ⟨ra,rc,e1,e2⟩:=H4.out.2.2.1 j hj
      exact ⟨ra,rc,e1,e2.kept kA⟩) (H4.out.2.2.2.kept kA) hO hgr hG))
     clear kA hOw hgr hO KW hG
     --%M
     go_wp2_with fail
     go_roundw
     case rel => exact ⟨i + 1,by omega,by go_num,HNn.out.1,HNn.out.2⟩
     case measure => show n - ((i:Int) + 1).toNat < n - (i:Int).toNat; omega
  ·
   have hii:¬ (i:Int) < (n:Int):=by omega
   obtain rfl:i = n:=by omega
   obtain ⟨bo,cap',e⟩:=HM.out.mn.shape
   subst e
   --%N
   go_wp2_with fail
   go_ret
   exact ⟨HK.out,bo,cap',rfl,HM.out.mn⟩
end Bp
end Go.Proofs.YtdcfammglpebaaaGreat

namespace Go.Proofs.YtdcfammglpebaaaGreat
open Go.RowKit
open V (RowL RowL.alloc RowL.lt RowL.cell RowL.fz RowL.kept RowL.block RowL.set RowL.far)
open Sp (hid own_kept own_keptK own_shape info_parts)
open Sy
open Bm (MxR ZsR mxr_at mxr_kept zsr_at zsr_kept cel_at mOk)
open X (zk zr zl zd region_z anyZ_ready AllZ AllZ.cons AllZ.nil)
open Ba (prL norm1 norm2)
namespace Bp
def sqs (f:Nat→Int):Nat→Int
 | 0 => 0
 | k + 1 => sqs f k + f k * f k
def nz2 (n:Nat) (M:Nat→Nat→Int) (b:Nat→Int) (i:Nat):Int:=sqs (M i) n + b i * b i
def nz1 (n:Nat) (M:Nat→Nat→Int) (b:Nat→Int) (i:Nat):Int:=if nz2 n M b i = 0 then 1 else nz2 n M b i
def prZ (g:Nat→Int):Nat→Int
 | 0 => 1
 | i + 1 => prZ g i * g i
theorem sqs_rat (f:Nat→Int) (n:Nat):((sqs f n:Int):Rat) = Ba.sm n (fun k => (f k:Rat) * (f k:Rat)):=by
 induction n with
 | zero => rfl
 | succ n ih =>
  show ((sqs f n + f n * f n:Int):Rat) = Ba.sm n _ + _
  rw [Rat.intCast_add,Rat.intCast_mul,ih]
theorem nz2_rat (n:Nat) (M:Nat→Nat→Int) (b:Nat→Int) (i:Nat):((nz2 n M b i:Int):Rat) = norm2 n M b i:=by
 unfold nz2 norm2
 rw [Rat.intCast_add,Rat.intCast_mul,sqs_rat]
 rfl
theorem nz1_rat (n:Nat) (M:Nat→Nat→Int) (b:Nat→Int) (i:Nat):((nz1 n M b i:Int):Rat) = norm1 n M b i:=by
 unfold nz1 norm1
 rw [← nz2_rat]
 by_cases h:nz2 n M b i = 0
 ·
  rw [if_pos h,if_pos (by rw [h]; rfl)]
  rfl
 ·
  rw [if_neg h,if_neg (show ¬ ((nz2 n M b i:Int):Rat) = 0 from fun e => h (Rat.intCast_inj.1 (show ((nz2 n M b i:Int):Rat) = ((0:Int):Rat) from e)))]
theorem prZ_rat (n:Nat) (M:Nat→Nat→Int) (b:Nat→Int) (m:Nat):((prZ (nz1 n M b) m:Int):Rat) = prL (norm1 n M b) (List.range m):=by
 induction m with
 | zero => rfl
 | succ m ih =>
  rw [List.range_succ,Ba.prL_app,← ih]
  show ((prZ (nz1 n M b) m * nz1 n M b m:Int):Rat) = _ * (norm1 n M b m * 1)
  rw [Rat.intCast_mul,nz1_rat,Rat.mul_one]
theorem nis_far {t:TypeId} {w:World} {p:Nat} {b0:Bool} {o0:Option Addr} {k0 c0:Nat} (r:RowL t w p [.bool b0,.slice o0 k0 c0]) {s:Bool} {v:Value} {z:Int} (h:D.NIs w s v z) {w':World} (k:KX (fun q => q = p) w w'):D.NIs w' s v z:=by
 obtain ⟨l,⟨hb,ao,cap,rfl,hx⟩,hr,hi⟩:=h
 refine ⟨l,⟨hb,ao,cap,rfl,fun h0 => ?_⟩,hr,hi⟩
 obtain ⟨h1,b,off,rfl,hlt,hc⟩:=hx h0
 have hne:b ≠ p:=by
  intro e
  subst e
  obtain ⟨cs,e1,e2,e3⟩:=r
  have h2:=hc 0 h0
  unfold World.cell? at h2
  simp only [e1] at h2
  have e2:cs.size = 2:=e2
  match off,h2 with
  | 0,h2 => rw [show 0 + 0 = 0 by rfl,e3 0 (show 0 < 2 by decide)] at h2; cases h2
  | 1,h2 => rw [show 1 + 0 = 1 by rfl,e3 1 (show 1 < 2 by decide)] at h2; cases h2
  | o + 2,h2 => rw [Array.getElem?_eq_none (by omega)] at h2; cases h2
 refine ⟨h1,b,off,rfl,Nat.lt_of_lt_of_le hlt k.size,fun j hj => ?_⟩
 rw [World.cell?_of_block (k.block b hlt hne)]
 exact hc j hj
def NB (w:World) (p K:Nat) (z:Int):Prop:=∃ s ao k cap,RowL 51 w p [.bool s,.slice ao k cap]∧D.NIs w s (.slice ao k cap) z∧k≤K
theorem NB.kept {w w':World} {p K:Nat} {z:Int} (h:NB w p K z) (k:Kept w w'):NB w' p K z:=by
 obtain ⟨s,ao,q,cap,h1,h2,h3⟩:=h
 exact ⟨s,ao,q,cap,h1.kept k,h2.kept k,h3⟩
theorem NB.mono {w:World} {p K K':Nat} {z:Int} (h:NB w p K z) (e:K≤K'):NB w p K' z:=by
 obtain ⟨s,ao,q,cap,h1,h2,h3⟩:=h
 exact ⟨s,ao,q,cap,h1,h2,Nat.le_trans h3 e⟩
theorem NB.put {w:World} {p K K':Nat} {z z':Int} {s:Bool} {ao:Option Addr} {k cap:Nat} (h:NB w p K z) (hz:D.NIs w s (.slice ao k cap) z') (hk:k≤K'):NB ((w.setCell ⟨p,0,none⟩ (.bool s)).setCell ⟨p,1,none⟩ (.slice ao k cap)) p K' z':=by
 obtain ⟨s0,ao0,q,cap0,h1,h2,h3⟩:=h
 have kx:KX (fun k => k = p) w ((w.setCell ⟨p,0,none⟩ (.bool s)).setCell ⟨p,1,none⟩ (.slice ao k cap)):=((KX.refl w).setCell (T:=fun k => k = p) (p:=⟨p,0,none⟩) (.inl rfl) _).setCell (p:=⟨p,1,none⟩) (.inl rfl) _
 exact ⟨s,ao,k,cap,(h1.set 0 (.bool s)).set 1 (.slice ao k cap),nis_far h1 hz kx,hk⟩
theorem NB.beside {w w':World} {p q K K':Nat} {z z':Int} (h:NB w p K z) (h2:NB w q K' z') (hne:p ≠ q) (k:KX (fun k => k = q) w w'):NB w' p K z:=by
 obtain ⟨s0,ao0,k0,cap0,h1,hz,h3⟩:=h
 obtain ⟨s1,ao1,k1,cap1,g1,_,_⟩:=h2
 exact ⟨s0,ao0,k0,cap0,h1.block (k.block p h1.lt hne),nis_far g1 hz k,h3⟩
theorem NB.lt {w:World} {p K:Nat} {z:Int} (h:NB w p K z):p < w.heap.size:=by
 obtain ⟨s0,ao0,k0,cap0,h1,_⟩:=h
 exact h1.lt
def NarIs (n lm:Nat) (M:Nat→Nat→Int) (b:Nat→Int) (e:Ending):Prop:=∃ r:Bool,e = .returned (.bool r)∧(r = true→prZ (nz1 n M b) n < 4294967296 ^ lm * 4294967296 ^ lm)
theorem small_one (w:World):Calls Tryz.prog 37 #[.int .i64 1] w fun e w' => Kept w w'∧∃ ao n cap,e = .returned (.agg #[.bool false,.slice ao n cap])∧D.NIs w' false (.slice ao n cap) 1∧n≤1:=by
 refine (D.small_any 1 w (by decide)).mono ?_
 rintro e w' ⟨hk,ao,n,cap,l,rfl,hs,ht,hv,hl⟩
 exact ⟨hk,ao,n,cap,rfl,⟨l,hs,⟨hs.bd,ht,fun _ => rfl⟩,by simp [D.int,hv]⟩,by rw [dsl_len hs]; exact hl⟩
end Bp
end Go.Proofs.YtdcfammglpebaaaGreat
