/- shuntlaw14.BareissUnit: its walk. Rows of cells that grow in any order; a matrix of them. A matrix by what its cells say, wherever they lie (pure); rows of one's own as a matrix. Lists of numbers of the reference's, lists of such lists: what can be read; lists of one's own that grow. shuntref14.Take and Square: their walks. shuntref14: all, marked, wideIn. shuntref14.wideIn. shuntref14.places. shuntlaw14.copied: a matrix anew, limbs and all. -/
import Derived.Test.YtdcgdpbgnijnpaaGreatGaw
import Derived.Test.YtdcgdpbgnijnpaaGreatGax
import Derived.Test.YtdcgdpbgnijnpaaGreatBd2
import Derived.Test.YtdcgdpbgnijnpaaGreatGas
import Derived.Test.YtdcgdpbgnijnpaaGreatGad
import Derived.Test.YtdcgdpbgnijnpaaGreatGam
import Derived.Test.YtdcgdpbgnijnpaaGreatGay
import Derived.Test.YtdcgdpbgnijnpaaGreatGai
namespace Go.Proofs.YtdcgdpbgnijnpaaGreat
open Go.RowKit
open V (RowL RowL.alloc RowL.lt RowL.cell RowL.fz RowL.kept RowL.set RowL.far)
open Sp (hid vrow vrow_at vrow_len vrow_set vrow_congr ISl made_row make_ints info_parts)
open Sy
open Bm (ZI ZI.kept ZI.of MxR ZsR mxr_at mxr_kept zsr_at zsr_kept cel_at mOk)
open Ba (stg lastP pivs wideZ facS Fits)
namespace Bp
theorem info_cells:(Tryz.prog.info? 34).map (fun i => (i.zero,i.size,i.bytes)) = some (some (.slice none 0 0),1,24):=by kernel_rfl
theorem und_mat:Tryz.prog.underlying 22 = some (.slice 34):=by kernel_rfl
theorem make_mat {n:Nat} (hn:n≤1000000) (u:World):(Instr.makeSlice 22 (.int .i64 (n:Int)) (.int .i64 (n:Int))).run Tryz.prog u = .ok (.slice (some ⟨u.heap.size,0,none⟩) n n) (u.alloc (.cells (vrow n fun _ => .slice none 0 0).toArray 34)):=by
 obtain ⟨i0,hi,hz0,hz1,hz2⟩:=info_parts info_cells
 have h:=run_make (P:=Tryz.prog) u 22 34 i0 (.slice none 0 0) und_mat hi hz0 .i64 .i64 (n:Int) (n:Int) (by omega) (Int.le_refl _) (by rw [hz2]; omega) (by omega)
 rw [Int.toNat_natCast,hz1,made_row _ rfl] at h
 exact h
structure CV where
 p:Nat
 s:Bool
 ao:Option Addr
 k:Nat
 c:Nat
structure UnS (w0 wr:World) (g gw n i:Nat) (limbs:Nat) (Bs:List ZE) (rv:Nat→CV):Prop where
 kept:Kept w0 wr
 rows:RowL 34 wr g (vrow n fun j => if j < i then .slice (some ⟨(rv j).p,0,none⟩) 1 1 else .slice none 0 0)
 want:RowL 3 wr gw (vrow n fun j => if j < i then .int .i64 (j:Int) else .int .i64 0)
 row:∀ j,j < i→RowL 39 wr (rv j).p [.int .i64 (j:Int),.bool (rv j).s,.slice (rv j).ao (rv j).k (rv j).c]∧ZN 0 wr (rv j).s (.slice (rv j).ao (rv j).k (rv j).c) 1
 ok:∀ j,j < i→zsB Bs j = true∧wideZ limbs (zsF Bs j) = false
 lies:w0.heap.size≤g∧w0.heap.size≤gw
section
variable {w0 wr w':World} {g gw n i limbs:Nat} {Bs:List ZE} {rv:Nat→CV}
theorem UnS.later (h:UnS w0 wr g gw n i limbs Bs rv) (k:Kept wr w'):UnS w0 w' g gw n i limbs Bs rv :=
 ⟨h.kept.trans k,h.rows.kept k,h.want.kept k,fun j hj => ⟨(h.row j hj).1.kept k,(h.row j hj).2.kept k⟩,h.ok,h.lies⟩
theorem UnS.put (h:UnS w0 wr g gw n i limbs Bs rv) (v:CV) (hr:RowL 39 wr v.p [.int .i64 (i:Int),.bool v.s,.slice v.ao v.k v.c]) (hz:ZN 0 wr v.s (.slice v.ao v.k v.c) 1) (ho:zsB Bs i = true∧wideZ limbs (zsF Bs i) = false) :
  UnS w0 ((wr.setCell ⟨g,i,none⟩ (.slice (some ⟨v.p,0,none⟩) 1 1)).setCell ⟨gw,i,none⟩ (.int .i64 (i:Int))) g gw n (i + 1) limbs Bs (fun j => if j = i then v else rv j):=by
 have f1:=fun t (ht:34 ≠ t) => rowl_free h.rows ht
 have k1:KX (fun k => k = g) wr (wr.setCell ⟨g,i,none⟩ (.slice (some ⟨v.p,0,none⟩) 1 1)):=(KX.refl wr).setCell (T:=fun k => k = g) (p:=⟨g,i,none⟩) (.inl rfl) _
 have r1:=RowL_kx h.want k1 (f1 _ (by decide))
 have f2:=fun t (ht:3 ≠ t) => rowl_free r1 ht
 have k2:KX (fun k => k = gw) (wr.setCell ⟨g,i,none⟩ (.slice (some ⟨v.p,0,none⟩) 1 1)) ((wr.setCell ⟨g,i,none⟩ (.slice (some ⟨v.p,0,none⟩) 1 1)).setCell ⟨gw,i,none⟩ (.int .i64 (i:Int))):=(KX.refl _).setCell (T:=fun k => k = gw) (p:=⟨gw,i,none⟩) (.inl rfl) _
 have hl:=h.lies
 have hrow:∀ (t:TypeId) (p:Nat) (xs:List Value),34 ≠ t→3 ≠ t→RowL t wr p xs→RowL t ((wr.setCell ⟨g,i,none⟩ (.slice (some ⟨v.p,0,none⟩) 1 1)).setCell ⟨gw,i,none⟩ (.int .i64 (i:Int))) p xs:=fun t p xs h1 h2 r => RowL_kx (RowL_kx r k1 (f1 _ h1)) k2 (f2 _ h2)
 have hzn:∀ (s:Bool) (u:Value) (z:Int),ZN 0 wr s u z→ZN 0 ((wr.setCell ⟨g,i,none⟩ (.slice (some ⟨v.p,0,none⟩) 1 1)).setCell ⟨gw,i,none⟩ (.int .i64 (i:Int))) s u z:=fun s u z hz => (hz.kx k1 (f1 _ (by decide))).kx k2 (f2 _ (by decide))
 refine ⟨KX.kept (KX.kept h.kept k1 (fun k hk => by omega)) k2 (fun k hk => by omega),?_,?_,fun j hj => ?_,fun j hj => ?_,hl⟩
 ·
  have r:=RowL_kx (RowL.set h.rows i (.slice (some ⟨v.p,0,none⟩) 1 1)) k2 (f2 _ (by decide))
  rw [vrow_set] at r
  have e:(vrow n fun j => if j = i then Value.slice (some ⟨v.p,0,none⟩) 1 1 else if j < i then .slice (some ⟨(rv j).p,0,none⟩) 1 1 else .slice none 0 0) = vrow n fun j => if j < i + 1 then .slice (some ⟨(if j = i then v else rv j).p,0,none⟩) 1 1 else .slice none 0 0:=vrow_congr fun j _ => by
   by_cases e:j = i
   ·
    subst e
    rw [if_pos rfl,if_pos (by omega),if_pos rfl]
   ·
    rw [if_neg e,if_neg e]
    by_cases h1:j < i
    ·
     rw [if_pos h1,if_pos (by omega)]
    ·
     rw [if_neg h1,if_neg (by omega)]
  rw [e] at r
  exact r
 ·
  have r:=RowL.set r1 i (.int .i64 (i:Int))
  rw [vrow_set] at r
  have e:(vrow n fun j => if j = i then Value.int .i64 (i:Int) else if j < i then .int .i64 (j:Int) else .int .i64 0) = vrow n fun j => if j < i + 1 then .int .i64 (j:Int) else .int .i64 0:=vrow_congr fun j _ => by
   by_cases e:j = i
   ·
    subst e
    rw [if_pos rfl,if_pos (by omega)]
   ·
    rw [if_neg e]
    by_cases h1:j < i
    ·
     rw [if_pos h1,if_pos (by omega)]
    ·
     rw [if_neg h1,if_neg (by omega)]
  rw [e] at r
  exact r
 ·
  by_cases e:j = i
  ·
   subst e
   simp only [if_pos]
   exact ⟨hrow _ _ _ (by decide) (by decide) hr,hzn _ _ _ hz⟩
  ·
   simp only [if_neg e]
   have:=h.row j (by omega)
   exact ⟨hrow _ _ _ (by decide) (by decide) this.1,hzn _ _ _ this.2⟩
 ·
  by_cases e:j = i
  ·
   subst e; exact ho
  ·
   exact h.ok j (by omega)
end
def unL (n:Nat) (rv:Nat→CV):List LE:=(List.range n).map fun (j:Nat) => (⟨some ⟨(rv j).p,0,none⟩,1,[⟨(j:Int),⟨false,(rv j).ao,(rv j).c,[1]⟩⟩]⟩:LE)
end Bp
end Go.Proofs.YtdcgdpbgnijnpaaGreat

namespace Go.Proofs.YtdcgdpbgnijnpaaGreat
open Go.RowKit
open V (RowL RowL.alloc RowL.lt RowL.cell RowL.fz RowL.kept RowL.block RowL.set RowL.far)
open Sp (hid vrow vrow_at vrow_set own_kept own_keptK own_row own_shape own_cell info_parts only_refl)
open Sy
open Bm (MxR mOk)
open Ba (facS Fits)
namespace Bp
theorem info_cell:(Tryz.prog.info? 39).map (fun i => (i.zero,i.size,i.bytes)) = some (some (.agg #[.int .i64 0,.bool false,.slice none 0 0]),3,40):=by kernel_rfl
theorem und_cells:Tryz.prog.underlying 34 = some (.slice 39):=by kernel_rfl
structure GrC (B:Nat) (w:World) (g n:Nat) (hs:Nat→Value) (L:Nat→List CE):Prop where
 base:B≤g
 row:RowL 34 w g (vrow n hs)
 own:∀ j,j < n→w.ownsRow B 39 3 (hs j) (L j).length ((L j).flatMap CE.cells)
 apart:∀ j k,j < n→k < n→j ≠ k→∀ b,(hs j).ownBlock = some b→(hs k).ownBlock ≠ some b
theorem GrC.kept {B:Nat} {w w':World} {g n:Nat} {hs:Nat→Value} {L:Nat→List CE} (h:GrC B w g n hs L) (k:Kept w w'):GrC B w' g n hs L :=
 ⟨h.base,h.row.kept k,fun j hj => own_keptK (h.own j hj) k,h.apart⟩
theorem GrC.congr {B:Nat} {w:World} {g n:Nat} {hs:Nat→Value} {L L':Nat→List CE} (h:GrC B w g n hs L) (e:∀ j,j < n→L j = L' j):GrC B w g n hs L' :=
 ⟨h.base,h.row,fun j hj => by rw [← e j hj]; exact h.own j hj,h.apart⟩
theorem GrC.new {n:Nat} (w:World) {B:Nat} (hB:B≤w.heap.size):GrC B (w.alloc (.cells (vrow n fun _ => .slice none 0 0).toArray 34)) w.heap.size n (fun _ => .slice none 0 0) (fun _ => []) :=
 ⟨hB,RowL.alloc 34 w _,fun _ _ => World.ownsRow_nil _ _ _ _,fun _ _ _ _ _ _ hb => by cases hb⟩
theorem own_snoc {B:Nat} {w:World} {v:Value} {l:List CE} {x:CE} (h:w.ownsRow B 39 3 v (l.length + 1) (l.flatMap CE.cells ++ x.cells)):w.ownsRow B 39 3 v (l ++ [x]).length ((l ++ [x]).flatMap CE.cells):=by
 rw [List.length_append,List.flatMap_append,List.flatMap_cons,List.flatMap_nil,List.append_nil]
 exact h
theorem GrC.push {B:Nat} {w W w5:World} {g n c:Nat} {hs:Nat→Value} {L:Nat→List CE} {x:CE} {G cap:Nat} (h:GrC B w g n hs L) (hc:c < n) (kA:Kept w W)
  (hO:w5.ownsRow B 39 3 (.slice (some ⟨G,0,none⟩) ((L c).length + 1) cap) ((L c).length + 1) ((L c).flatMap CE.cells ++ x.cells)) (hgr:W.grownBy w5 (hs c).ownBlock) (hG:(hs c).ownBlock = some G ∨ G = W.heap.size) :
  GrC B (w5.setCell ⟨g,c,none⟩ (.slice (some ⟨G,0,none⟩) ((L c).length + 1) cap)) g n (fun j => if j = c then .slice (some ⟨G,0,none⟩) ((L c).length + 1) cap else hs j) (fun j => if j = c then L c ++ [x] else L j):=by
 have hW:=h.kept kA
 have hne:(hs c).ownBlock ≠ some g:=own_row (hW.own c hc) hW.row (by decide)
 have r5:RowL 34 w5 g (vrow n hs):=hW.row.block (hgr.block g hW.row.lt (fun e => hne e.symm))
 have o5:∀ j,j < n→j ≠ c→w5.ownsRow B 39 3 (hs j) (L j).length ((L j).flatMap CE.cells):=fun j hj e => own_kept (hW.own j hj) (fun b hb => hgr.block b (World.ownsRow.lt (hW.own j hj) b hb).2 (fun e' => hW.apart j c hj hc e b hb e'.symm))
 have hset:∀ {v:Value} {l:List CE} (V:Value),w5.ownsRow B 39 3 v l.length (l.flatMap CE.cells)→(w5.setCell ⟨g,c,none⟩ V).ownsRow B 39 3 v l.length (l.flatMap CE.cells):=fun {v l} V ho => own_kept ho (fun b hb => ((only_refl g w5).set c V).block b (fun e => own_row ho r5 (by decide) (by rw [← e]; exact hb)))
 refine ⟨h.base,?_,fun j hj => ?_,fun j k hj hk hjk b hb => ?_⟩
 ·
  have:=r5.set c (.slice (some ⟨G,0,none⟩) ((L c).length + 1) cap)
  rw [vrow_set] at this
  exact this
 ·
  by_cases e:j = c
  ·
   rw [if_pos e,if_pos e]
   exact hset _ (own_snoc hO)
  ·
   rw [if_neg e,if_neg e]
   exact hset _ (o5 j hj e)
 ·
  have key:∀ i,i < n→i ≠ c→(hs i).ownBlock ≠ some G:=by
   intro i hi e he
   rcases hG with hG | hG
   ·
    exact hW.apart i c hi hc e G he hG
   ·
    have:=(World.ownsRow.lt (hW.own i hi) G he).2
    omega
  by_cases e:j = c
  ·
   rw [if_pos e] at hb
   rw [if_neg (fun e' => hjk (by rw [e,e']))]
   have hb:G = b:=by simpa [Value.ownBlock] using hb
   rw [← hb]
   exact key k hk (fun e' => hjk (by rw [e,e']))
  ·
   rw [if_neg e] at hb
   by_cases e':k = c
   ·
    rw [if_pos e']
    intro h2
    have h2:G = b:=by simpa [Value.ownBlock] using h2
    exact key j hj e (by rw [h2]; exact hb)
   ·
    rw [if_neg e']
    exact hW.apart j k hj hk hjk b hb
def avOf:Value→Option Addr × Nat
 | .slice a _ c => (a,c)
 | _ => (none,0)
theorem own_av {w:World} {B:Nat} {e:TypeId} {sz n:Nat} {v:Value} {xs:List Value} (h:w.ownsRow B e sz v n xs):v = .slice (avOf v).1 n (avOf v).2:=by
 obtain ⟨a,c,rfl⟩:=own_shape h
 rfl
theorem flat3_at:∀ {L:List CE} {a q:Nat} {u:Value} (ha:a < L.length),(CE.cells L[a])[q]? = some u→(L.flatMap CE.cells)[a * 3 + q]? = some u
 | c :: t,0,q,u,_,h => by
  have hq:q < (CE.cells c).length:=(List.getElem?_eq_some_iff.1 h).1
  rw [List.flatMap_cons,List.getElem?_append_left (by rw [Nat.zero_mul,Nat.zero_add]; exact hq),Nat.zero_mul,Nat.zero_add]
  exact h
 | c :: t,a + 1,q,u,ha,h => by
  have h3:(CE.cells c).length = 3:=rfl
  rw [List.flatMap_cons,List.getElem?_append_right (by rw [h3]; omega),h3,show (a + 1) * 3 + q - 3 = a * 3 + q by omega]
  exact flat3_at (L:=t) (a:=a) (by simpa using ha) h
theorem own_cs {B:Nat} {w:World} {v:Value} {L:List CE} (h:w.ownsRow B 39 3 v L.length (L.flatMap CE.cells)) (hok:∀ x ∈ L,x.ok w):CsR w (avOf v).1 L:=fun h0 => by
 obtain ⟨g,cap,e,_,hg,_,hc,_⟩:=own_cell h h0
 refine ⟨g,0,by rw [e]; rfl,hg,fun i hi => ⟨fun q u hu => ?_,hok _ (List.getElem_mem hi)⟩⟩
 rw [Nat.zero_add]
 exact hc _ u (flat3_at hi hu)
theorem row_news {t:TypeId} {W:World} {p:Nat} {xs:List Value} (r:RowL t W p xs):∀ j u,xs[j]? = some u→W.cell? ((⟨p,0,none⟩:Addr).add j) = some u:=fun j u hu => by
 have hadd:(⟨p,0,none⟩:Addr).add j = ⟨p,j,none⟩:=by unfold Addr.add; split <;> simp_all
 rw [hadd]
 exact r.cell j u hu
end Bp
end Go.Proofs.YtdcgdpbgnijnpaaGreat

namespace Go.Proofs.YtdcgdpbgnijnpaaGreat
open Go.RowKit
open V (RowL RowL.alloc RowL.lt RowL.cell RowL.fz RowL.kept RowL.block RowL.set RowL.far)
open Sp (vrow vrow_at own_kept own_keptK own_row own_shape own_cell)
open Sy
open Bm (MxR mOk)
namespace Bp
def keyE (c:CE):Int × Bool × List Nat:=(c.col,c.val.neg,c.val.lim)
theorem rowF_keys (cs:List CE):rowF cs = (cs.map keyE).foldl (fun f k => upd f k.1.toNat (M.int k.2.1 k.2.2)) (fun _ => 0):=by
 rw [List.foldl_map]
 rfl
theorem rowF_key {cs cs':List CE} (h:cs.map keyE = cs'.map keyE):rowF cs = rowF cs':=by rw [rowF_keys,rowF_keys,h]
theorem cOk_key {n:Nat}:∀ {cs cs':List CE} {last:Int},cs.map keyE = cs'.map keyE→cOk n last cs = cOk n last cs':=by
 intro cs
 induction cs with
 | nil =>
  intro cs' last h
  cases cs' with
  | nil => rfl
  | cons c t => cases h
 | cons c t ih =>
  intro cs' last h
  cases cs' with
  | nil => cases h
  | cons c' t' =>
   rw [List.map_cons,List.map_cons] at h
   injection h with h1 h2
   obtain ⟨y,m,zo,zc,zl⟩:=c
   obtain ⟨y',m',zo',zc',zl'⟩:=c'
   unfold keyE at h1
   cases h1
   have e:=ih (cs':=t') (last:=y) h2
   show (_ && cOk n y t) = (_ && cOk n y t')
   rw [e]
   rfl
def lL (n:Nat) (hs:Nat→Value) (C:Nat→List CE):List LE:=(List.range n).map fun c => ⟨(avOf (hs c)).1,(avOf (hs c)).2,C c⟩
theorem lL_len (n:Nat) (hs:Nat→Value) (C:Nat→List CE):(lL n hs C).length = n:=by unfold lL; simp
theorem lL_at {n:Nat} {hs:Nat→Value} {C:Nat→List CE} {j:Nat} (hj:j < n):(lL n hs C).getD j l0 = ⟨(avOf (hs j)).1,(avOf (hs j)).2,C j⟩:=by
 rw [List.getD_eq_getElem?_getD]
 unfold lL
 rw [List.getElem?_map,List.getElem?_range hj]
 rfl
theorem lL_mat {n:Nat} {hs:Nat→Value} {C:Nat→List CE} {j:Nat} (hj:j < n):matF (lL n hs C) j = rowF (C j):=by
 show rowF ((lL n hs C).getD j l0).cs = _
 rw [lL_at hj]
theorem GrC.mxL {B:Nat} {w:World} {g n:Nat} {hs:Nat→Value} {C:Nat→List CE} (h:GrC B w g n hs C) (hok:∀ c,c < n→∀ x ∈ C c,x.ok w):MxR w (some ⟨g,0,none⟩) (lL n hs C):=fun _ => ⟨g,0,rfl,h.row.lt,fun j hj => by
 have hjn:j < n:=by rw [lL_len] at hj; exact hj
 have e:(lL n hs C)[j] = ⟨(avOf (hs j)).1,(avOf (hs j)).2,C j⟩:=by simp only [lL,List.getElem_map,List.getElem_range]
 rw [e]
 refine ⟨fun q u hu => ?_,own_cs (h.own j hjn) (hok j hjn)⟩
 match q,hu with
 | 0,hu =>
  cases hu
  rw [show 0 + j * 1 + 0 = j by omega]
  exact (h.row.cell j _ (vrow_at hjn)).trans (congrArg some (own_av (h.own j hjn)))⟩
theorem own_some {B:Nat} {w:World} {e:TypeId} {sz n c G k:Nat} {xs:List Value} (h:w.ownsRow B e sz (.slice (some ⟨G,0,none⟩) n c) n xs) (hk:k < n * sz):∃ x,w.cell? ⟨G,k,none⟩ = some x:=⟨_,(h.cellAt k hk).trans (List.getElem?_eq_getElem (by rw [h.1]; exact hk))⟩
end Bp
end Go.Proofs.YtdcgdpbgnijnpaaGreat

namespace Go.Proofs.YtdcgdpbgnijnpaaGreat
open Go.RowKit
open V (RowL RowL.alloc RowL.lt RowL.cell RowL.fz RowL.kept RowL.set RowL.far)
open Sp (hid own_kept own_keptK own_shape info_parts)
namespace Bp
def DX (A:Nat→Prop) (K:Nat) (w:World) (s:Bool) (v:Value) (z:Int):Prop :=
 D.NIs w s v z∧∃ ao k cap,v = .slice ao k cap∧k≤K∧(0 < k→∀ b o p,ao = some ⟨b,o,p⟩→¬ A b)
theorem dsl_len {w:World} {ao:Option Addr} {k cap:Nat} {l:List Nat} (h:D.Sl w (.slice ao k cap) l):k = l.length:=by
 obtain ⟨_,_,_,e,_⟩:=h
 injection e
theorem DX.kx {A:Nat→Prop} {K:Nat} {w w':World} {s:Bool} {v:Value} {z:Int} (h:DX A K w s v z) (k:KX A w w'):DX A K w' s v z:=by
 obtain ⟨⟨l,⟨hb,ao,cap,rfl,hx⟩,hr,hi⟩,ao',k',cap',e,hk,ha⟩:=h
 cases e
 refine ⟨⟨l,⟨hb,ao,cap,rfl,fun h0 => ?_⟩,hr,hi⟩,ao,_,cap,rfl,hk,ha⟩
 obtain ⟨h1,b,off,rfl,hlt,hc⟩:=hx h0
 refine ⟨h1,b,off,rfl,Nat.lt_of_lt_of_le hlt k.size,fun j hj => ?_⟩
 rw [World.cell?_of_block (k.block b hlt (ha h0 b off none rfl))]
 exact hc j hj
theorem DX.kept {A:Nat→Prop} {K:Nat} {w w':World} {s:Bool} {v:Value} {z:Int} (h:DX A K w s v z) (k:Kept w w'):DX A K w' s v z:=h.kx (KX.of k)
theorem DX.mono {A A':Nat→Prop} {K K':Nat} {w:World} {s:Bool} {v:Value} {z:Int} (h:DX A K w s v z) (hA:∀ q,A' q→A q) (hK:K≤K'):DX A' K' w s v z:=by
 obtain ⟨h1,ao,k,cap,e,hk,ha⟩:=h
 exact ⟨h1,ao,k,cap,e,Nat.le_trans hk hK,fun h0 b o p e hq => ha h0 b o p e (hA b hq)⟩
theorem DX.add {A:Nat→Prop} {K:Nat} {w:World} {s:Bool} {v:Value} {z:Int} (h:DX A K w s v z):DX (fun q => A q ∨ w.heap.size≤q) K w s v z:=by
 obtain ⟨h1,ao,k,cap,rfl,hk,ha⟩:=h
 refine ⟨h1,ao,k,cap,rfl,hk,fun h0 b o p e hq => ?_⟩
 rcases hq with hq | hq
 ·
  exact ha h0 b o p e hq
 ·
  obtain ⟨l,hs,_⟩:=h1
  have hl:=dsl_len hs
  obtain ⟨_,ao2,cap2,e2,hx⟩:=hs
  injection e2 with e2 _ _
  obtain ⟨_,b2,o2,e3,hlt,_⟩:=hx (by omega)
  rw [e,e3] at e2
  injection e2 with e2
  injection e2 with e2
  omega
theorem DX.of {K:Nat} {w:World} {s:Bool} {ao:Option Addr} {k cap:Nat} {z:Int} (h:D.NIs w s (.slice ao k cap) z) (hk:k≤K):DX (fun _ => False) K w s (.slice ao k cap) z:=⟨h,ao,k,cap,rfl,hk,fun _ _ _ _ _ h => h⟩
theorem DX.nought (A:Nat→Prop) (K:Nat) (w:World):DX A K w false (.slice none 0 0) 0:=⟨⟨[],D.Sl.nil w none 0,⟨D.Bd_nil,(.inl rfl),fun _ => rfl⟩,rfl⟩,none,0,0,rfl,Nat.zero_le _,fun h => absurd h (by decide)⟩
def RdX (A:Nat→Prop) (K:Nat) (zs:Nat→Int) (w:World) (v:Value) (n:Nat):Prop :=
 ∃ ao cap,v = .slice ao n cap∧(0 < n→∃ b off:Nat,ao = some ⟨b,off,none⟩∧b < w.heap.size∧¬ A b∧∀ j,j < n→∃ s so sk sc,w.cell? ⟨b,off + j * 2,none⟩ = some (.bool s)∧w.cell? ⟨b,off + j * 2 + 1,none⟩ = some (.slice so sk sc)∧DX A K w s (.slice so sk sc) (zs j))
section
variable {A A':Nat→Prop} {K K' n:Nat} {zs zs':Nat→Int} {w w':World} {v:Value}
theorem RdX.kx (h:RdX A K zs w v n) (k:KX A w w'):RdX A K zs w' v n:=by
 obtain ⟨ao,cap,rfl,h⟩:=h
 refine ⟨ao,cap,rfl,fun h0 => ?_⟩
 obtain ⟨b,off,rfl,hb,hA,hc⟩:=h h0
 have hh:=k.block b hb hA
 refine ⟨b,off,rfl,Nat.lt_of_lt_of_le hb k.size,hA,fun j hj => ?_⟩
 obtain ⟨s,so,sk,sc,h1,h2,h3⟩:=hc j hj
 exact ⟨s,so,sk,sc,(World.cell?_of_block (a:=⟨b,off + j * 2,none⟩) hh).trans h1,(World.cell?_of_block (a:=⟨b,off + j * 2 + 1,none⟩) hh).trans h2,h3.kx k⟩
theorem RdX.kept (h:RdX A K zs w v n) (k:Kept w w'):RdX A K zs w' v n:=h.kx (KX.of k)
theorem RdX.mono (h:RdX A K zs w v n) (hA:∀ q,A' q→A q) (hK:K≤K'):RdX A' K' zs w v n:=by
 obtain ⟨ao,cap,rfl,h⟩:=h
 refine ⟨ao,cap,rfl,fun h0 => ?_⟩
 obtain ⟨b,off,rfl,hb,hn,hc⟩:=h h0
 refine ⟨b,off,rfl,hb,fun h => hn (hA b h),fun j hj => ?_⟩
 obtain ⟨s,so,sk,sc,h1,h2,h3⟩:=hc j hj
 exact ⟨s,so,sk,sc,h1,h2,h3.mono hA hK⟩
theorem RdX.congr (h:RdX A K zs w v n) (e:∀ j,j < n→zs j = zs' j):RdX A K zs' w v n:=by
 obtain ⟨ao,cap,rfl,h⟩:=h
 refine ⟨ao,cap,rfl,fun h0 => ?_⟩
 obtain ⟨b,off,rfl,hb,hn,hc⟩:=h h0
 refine ⟨b,off,rfl,hb,hn,fun j hj => ?_⟩
 rw [← e j hj]
 exact hc j hj
theorem RdX.add (h:RdX A K zs w v n):RdX (fun q => A q ∨ w.heap.size≤q) K zs w v n:=by
 obtain ⟨ao,cap,rfl,h⟩:=h
 refine ⟨ao,cap,rfl,fun h0 => ?_⟩
 obtain ⟨b,off,rfl,hb,hn,hc⟩:=h h0
 refine ⟨b,off,rfl,hb,fun h => h.elim hn (fun h => by omega),fun j hj => ?_⟩
 obtain ⟨s,so,sk,sc,h1,h2,h3⟩:=hc j hj
 exact ⟨s,so,sk,sc,h1,h2,h3.add⟩
theorem RdX.at {ao:Option Addr} {cap:Nat} (h:RdX A K zs w (.slice ao n cap) n) {j:Nat} (hj:j < n):∃ b off s so sk sc,ao = some ⟨b,off,none⟩∧b < w.heap.size∧¬ A b∧(∀ V,KX A w V→V.cell? ⟨b,off + j * 2,none⟩ = some (.bool s)∧V.cell? ⟨b,off + j * 2 + 1,none⟩ = some (.slice so sk sc))∧DX A K w s (.slice so sk sc) (zs j)∧sk≤K:=by
 obtain ⟨_,_,e,h⟩:=h
 cases e
 obtain ⟨b,off,rfl,hb,hn,hc⟩:=h (by omega)
 obtain ⟨s,so,sk,sc,h1,h2,h3⟩:=hc j hj
 refine ⟨b,off,s,so,sk,sc,rfl,hb,hn,fun V k => ?_,h3,?_⟩
 ·
  have hh:=k.block b hb hn
  exact ⟨(World.cell?_of_block (a:=⟨b,off + j * 2,none⟩) hh).trans h1,(World.cell?_of_block (a:=⟨b,off + j * 2 + 1,none⟩) hh).trans h2⟩
 ·
  obtain ⟨_,_,_,_,e,hk,_⟩:=h3
  cases e
  exact hk
theorem RdX.shape (h:RdX A K zs w v n):∃ ao cap,v = .slice ao n cap:=by
 obtain ⟨ao,cap,rfl,_⟩:=h
 exact ⟨ao,cap,rfl⟩
end
def NO (A:Nat→Prop) (P K:Nat) (zs:Nat→Int) (w:World) (v:Value) (n:Nat):Prop :=
 ∃ xs,w.ownsRow P 51 2 v n xs∧(∀ b,v.ownBlock = some b→¬ A b)∧∀ j,j < n→∃ s ao k cap,xs[j * 2]? = some (.bool s)∧xs[j * 2 + 1]? = some (.slice ao k cap)∧DX (fun q => A q ∨ v.ownBlock = some q) K w s (.slice ao k cap) (zs j)
section
variable {A:Nat→Prop} {P K n:Nat} {zs zs':Nat→Int} {w w' W W4:World} {v:Value}
theorem NO.nil (A:Nat→Prop) (P K:Nat) (zs:Nat→Int) (w:World):NO A P K zs w (.slice none 0 0) 0:=⟨[],World.ownsRow_nil _ _ _ _,(fun b h => by cases h),fun j hj => absurd hj (Nat.not_lt_zero _)⟩
theorem NO.kept (h:NO A P K zs w v n) (k:Kept w w'):NO A P K zs w' v n:=by
 obtain ⟨xs,ho,hA,hx⟩:=h
 refine ⟨xs,own_keptK ho k,hA,fun j hj => ?_⟩
 obtain ⟨s,ao,m,cap,x1,x2,x3⟩:=hx j hj
 exact ⟨s,ao,m,cap,x1,x2,x3.kept k⟩
theorem NO.congr (h:NO A P K zs w v n) (e:∀ j,j < n→zs j = zs' j):NO A P K zs' w v n:=by
 obtain ⟨xs,ho,hA,hx⟩:=h
 refine ⟨xs,ho,hA,fun j hj => ?_⟩
 rw [← e j hj]
 exact hx j hj
theorem NO.rdx (h:NO A P K zs w v n):RdX A K zs w v n:=by
 obtain ⟨xs,ho,hA,hx⟩:=h
 obtain ⟨ao,cap,rfl⟩:=own_shape ho
 refine ⟨ao,cap,rfl,fun h0 => ?_⟩
 rcases ho.2 with ⟨_,e⟩ | ⟨g,cap',cur,e,_⟩
 ·
  omega
 ·
  cases e
  refine ⟨g,0,rfl,(World.ownsRow.lt ho g rfl).2,hA g rfl,fun j hj => ?_⟩
  obtain ⟨s,so,sk,sc,x1,x2,x3⟩:=hx j hj
  exact ⟨s,so,sk,sc,by rw [Nat.zero_add]; exact (ho.cellAt _ (by omega)).trans x1,by rw [Nat.zero_add]; exact (ho.cellAt _ (by omega)).trans x2,x3.mono (fun q h => .inl h) (Nat.le_refl K)⟩
theorem NO.snoc {g4 cap4:Nat} {s:Bool} {ao:Option Addr} {k cap:Nat} (hA:∀ q,A q→q < W.heap.size) (xs:List Value) (hl:xs.length = n * 2) (hv:∀ b,v.ownBlock = some b→¬ A b)
  (hx:∀ j,j < n→∃ s ao k cap,xs[j * 2]? = some (.bool s)∧xs[j * 2 + 1]? = some (.slice ao k cap)∧DX (fun q => A q ∨ v.ownBlock = some q) K W s (.slice ao k cap) (zs j))
  (hz:DX (fun q => A q ∨ v.ownBlock = some q) K W s (.slice ao k cap) (zs n)) (ho:W4.ownsRow P 51 2 (.slice (some ⟨g4,0,none⟩) (n + 1) cap4) (n + 1) (xs ++ [.bool s,.slice ao k cap])) (hg:W.grownBy W4 v.ownBlock) (hG:v.ownBlock = some g4 ∨ g4 = W.heap.size) :
  NO A P K zs W4 (.slice (some ⟨g4,0,none⟩) (n + 1) cap4) (n + 1):=by
 have kx:KX (fun q => A q ∨ v.ownBlock = some q) W W4:=(KX.grown hg).mono fun q hq => .inr hq.symm
 have up:∀ {s:Bool} {u:Value} {z:Int},DX (fun q => A q ∨ v.ownBlock = some q) K W s u z→DX (fun q => A q ∨ Value.ownBlock (.slice (some ⟨g4,0,none⟩) (n + 1) cap4) = some q) K W4 s u z:=fun h => by
  have h2:=(h.kx kx)
  refine DX.kx (w:=W) ?_ ((KX.grown hg).mono fun q hq => ?_) |>.mono (A:=fun q => A q ∨ v.ownBlock = some q ∨ q = g4) (fun q hq => ?_) (Nat.le_refl K)
  ·
   refine h.add.mono (fun q hq => ?_) (Nat.le_refl K)
   rcases hq with hq | hq | rfl
   ·
    exact .inl (.inl hq)
   ·
    exact .inl (.inr hq)
   ·
    rcases hG with e | e
    ·
     exact .inl (.inr e)
    ·
     exact .inr (by omega)
  ·
   exact .inr (.inl hq.symm)
  ·
   rcases hq with hq | hq
   ·
    exact .inl hq
   ·
    have:g4 = q:=by simpa [Value.ownBlock] using hq
    exact .inr (.inr this.symm)
 refine ⟨_,ho,fun b hb hq => ?_,fun j hj => ?_⟩
 ·
  have hb:g4 = b:=by simpa [Value.ownBlock] using hb
  subst hb
  rcases hG with e | e
  ·
   exact hv _ e hq
  ·
   have:=hA _ hq; omega
 ·
  by_cases e:j < n
  ·
   obtain ⟨s',ao',k',cap',x1,x2,x3⟩:=hx j e
   exact ⟨s',ao',k',cap',by rw [List.getElem?_append_left (by omega)]; exact x1,by rw [List.getElem?_append_left (by omega)]; exact x2,up x3⟩
  ·
   obtain rfl:j = n:=by omega
   refine ⟨s,ao,k,cap,?_,?_,up hz⟩
   ·
    rw [List.getElem?_append_right (by omega),hl,Nat.sub_self]; rfl
   ·
    rw [List.getElem?_append_right (by omega),hl,show j * 2 + 1 - j * 2 = 1 by omega]; rfl
theorem NO.put {g c j:Nat} {s:Bool} {ao:Option Addr} {k cap:Nat} {z:Int} (h:NO A P K zs w (.slice (some ⟨g,0,none⟩) n c) n) (hj:j < n) (hz:DX (fun q => A q ∨ q = g) K w s (.slice ao k cap) z) :
  NO A P K (upd zs j z) ((w.setCell ⟨g,j * 2,none⟩ (.bool s)).setCell ⟨g,j * 2 + 1,none⟩ (.slice ao k cap)) (.slice (some ⟨g,0,none⟩) n c) n:=by
 obtain ⟨xs,ho,hA,hx⟩:=h
 have kx:KX (fun q => q = g) w ((w.setCell ⟨g,j * 2,none⟩ (.bool s)).setCell ⟨g,j * 2 + 1,none⟩ (.slice ao k cap)):=((KX.refl w).setCell (T:=fun k => k = g) (p:=⟨g,j * 2,none⟩) (.inl rfl) _).setCell (p:=⟨g,j * 2 + 1,none⟩) (.inl rfl) _
 have ho2:=((ho.stored (j * 2) (.bool s)).1.stored (j * 2 + 1) (.slice ao k cap)).1
 have hlen:xs.length = n * 2:=ho.1
 have up:∀ {s9:Bool} {u:Value} {z:Int},DX (fun q => A q ∨ q = g) K w s9 u z→DX (fun q => A q ∨ Value.ownBlock (.slice (some ⟨g,0,none⟩) n c) = some q) K ((w.setCell ⟨g,j * 2,none⟩ (.bool s)).setCell ⟨g,j * 2 + 1,none⟩ (.slice ao k cap)) s9 u z:=fun h =>
  (h.kx (kx.mono fun q hq => .inr hq)).mono (fun q hq => Or.imp id (fun hq:Value.ownBlock (.slice (some ⟨g,0,none⟩) n c) = some q => (show g = q by simpa [Value.ownBlock] using hq).symm) hq) (Nat.le_refl K)
 refine ⟨_,ho2,hA,fun i hi => ?_⟩
 by_cases e:i = j
 ·
  subst e
  refine ⟨s,ao,k,cap,?_,?_,?_⟩
  ·
   rw [List.getElem?_set_ne (by omega),List.getElem?_set_self (by omega)]
  ·
   rw [List.getElem?_set_self (by rw [List.length_set]; omega)]
  ·
   unfold upd; rw [if_pos rfl]; exact up hz
 ·
  obtain ⟨s',ao',k',cap',x1,x2,x3⟩:=hx i hi
  refine ⟨s',ao',k',cap',?_,?_,?_⟩
  ·
   rw [List.getElem?_set_ne (by omega),List.getElem?_set_ne (by omega)]; exact x1
  ·
   rw [List.getElem?_set_ne (by omega),List.getElem?_set_ne (by omega)]; exact x2
  ·
   unfold upd; rw [if_neg e]; exact up (x3.mono (fun q hq => Or.imp id (fun hq:q = g => by rw [hq]; rfl) hq) (Nat.le_refl K))
end
theorem und_rns:Tryz.prog.underlying 52 = some (.slice 51):=by kernel_rfl
theorem info_rn:(Tryz.prog.info? 51).map (fun i => (i.zero,i.size,i.bytes)) = some (some (.agg #[.bool false,.slice none 0 0]),2,32):=by kernel_rfl
theorem make_ns {A:Nat→Prop} {K n:Nat} (hn:n≤1000000) (u:World) (hA:∀ q,A q→q < u.heap.size):∃ W,(Instr.makeSlice 52 (.int .i64 (n:Int)) (.int .i64 (n:Int))).run Tryz.prog u = .ok (.slice (some ⟨u.heap.size,0,none⟩) n n) W∧Kept u W∧W.heap.size = u.heap.size + 1∧NO A u.heap.size K (fun _ => 0) W (.slice (some ⟨u.heap.size,0,none⟩) n n) n:=by
 obtain ⟨i0,hi,hz0,hz1,hz2⟩:=info_parts info_rn
 have h:=run_make (P:=Tryz.prog) u 52 51 i0 (.agg #[.bool false,.slice none 0 0]) und_rns hi hz0 .i64 .i64 (n:Int) (n:Int) (by omega) (Int.le_refl _) (by rw [hz2]; omega) (by omega)
 simp only [Int.toNat_natCast,hz1] at h
 refine ⟨_,h,(Kept.refl u).alloc _,by simp,(madeCells (Value.agg #[.bool false,.slice none 0 0]).cells (n * 2)).toList,⟨by rw [Array.length_toList,size_madeCells],.inr ⟨u.heap.size,n,madeCells (Value.agg #[.bool false,.slice none 0 0]).cells (n * 2),rfl,Nat.le_refl _,heap_alloc_new u _,Nat.le_refl _,by unfold maxLen; omega,size_madeCells _ _,List.take_of_length_le (by rw [Array.length_toList,size_madeCells]; exact Nat.le_refl _)⟩⟩,fun b hb hq => ?_,fun j hj => ⟨false,none,0,0,?_,?_,DX.nought _ _ _⟩⟩
 ·
  have hb:u.heap.size = b:=by simpa [Value.ownBlock] using hb
  have:=hA b hq
  omega
 ·
  rw [made_at _ _ _ (by omega),show (j * 2) % (Value.agg #[.bool false,.slice none 0 0]).cells.size = 0 from Nat.mul_mod_left j 2]
  rfl
 ·
  rw [made_at _ _ _ (by omega),show (j * 2 + 1) % (Value.agg #[.bool false,.slice none 0 0]).cells.size = 1 from by show (j * 2 + 1) % 2 = 1; omega]
  rfl
def MO (P K m:Nat) (F:Nat→Nat→Int) (w:World) (v:Value) (n:Nat):Prop :=
 ∃ hs:List Value,w.ownsRow P 52 1 v n hs∧∀ i,i < n→∃ ra rc,hs[i]? = some (.slice ra m rc)∧RdX (fun q => v.ownBlock = some q) K (F i) w (.slice ra m rc) m
def MN (K m:Nat) (F:Nat→Nat→Int) (w:World) (v:Value) (n:Nat):Prop :=
 ∃ ao cap,v = .slice ao n cap∧(0 < n→∃ b off:Nat,ao = some ⟨b,off,none⟩∧b < w.heap.size∧∀ i,i < n→∃ ra rc,w.cell? ⟨b,off + i,none⟩ = some (.slice ra m rc)∧RdX (fun _ => False) K (F i) w (.slice ra m rc) m)
section
variable {P K m n:Nat} {F F':Nat→Nat→Int} {w w' W W4:World} {v:Value}
theorem MO.nil (P K m:Nat) (F:Nat→Nat→Int) (w:World):MO P K m F w (.slice none 0 0) 0:=⟨[],World.ownsRow_nil _ _ _ _,fun _ hj => absurd hj (Nat.not_lt_zero _)⟩
theorem MO.kept (h:MO P K m F w v n) (k:Kept w w'):MO P K m F w' v n:=by
 obtain ⟨hs,ho,hx⟩:=h
 refine ⟨hs,own_keptK ho k,fun i hi => ?_⟩
 obtain ⟨ra,rc,x1,x2⟩:=hx i hi
 exact ⟨ra,rc,x1,x2.kept k⟩
theorem MO.congr (h:MO P K m F w v n) (e:∀ i,i < n→∀ j,j < m→F i j = F' i j):MO P K m F' w v n:=by
 obtain ⟨hs,ho,hx⟩:=h
 refine ⟨hs,ho,fun i hi => ?_⟩
 obtain ⟨ra,rc,x1,x2⟩:=hx i hi
 exact ⟨ra,rc,x1,x2.congr (e i hi)⟩
theorem MO.mn (h:MO P K m F w v n):MN K m F w v n:=by
 obtain ⟨hs,ho,hx⟩:=h
 obtain ⟨ao,cap,rfl⟩:=own_shape ho
 refine ⟨ao,cap,rfl,fun h0 => ?_⟩
 rcases ho.2 with ⟨_,e⟩ | ⟨g,cap',cur,e,_⟩
 ·
  omega
 ·
  cases e
  refine ⟨g,0,rfl,(World.ownsRow.lt ho g rfl).2,fun i hi => ?_⟩
  obtain ⟨ra,rc,x1,x2⟩:=hx i hi
  exact ⟨ra,rc,by rw [Nat.zero_add]; exact (ho.cellAt _ (by omega)).trans x1,x2.mono (fun q h => h.elim) (Nat.le_refl K)⟩
theorem MO.snoc {g4 cap4:Nat} {ra:Option Addr} {rc:Nat} (hs:List Value) (hl:hs.length = n)
  (hx:∀ i,i < n→∃ ra rc,hs[i]? = some (.slice ra m rc)∧RdX (fun q => v.ownBlock = some q) K (F i) W (.slice ra m rc) m)
  (hz:RdX (fun q => v.ownBlock = some q) K (F n) W (.slice ra m rc) m) (ho:W4.ownsRow P 52 1 (.slice (some ⟨g4,0,none⟩) (n + 1) cap4) (n + 1) (hs ++ [.slice ra m rc])) (hg:W.grownBy W4 v.ownBlock) (hG:v.ownBlock = some g4 ∨ g4 = W.heap.size) :
  MO P K m F W4 (.slice (some ⟨g4,0,none⟩) (n + 1) cap4) (n + 1):=by
 have up:∀ {u:Value} {zs:Nat→Int},RdX (fun q => v.ownBlock = some q) K zs W u m→RdX (fun q => Value.ownBlock (.slice (some ⟨g4,0,none⟩) (n + 1) cap4) = some q) K zs W4 u m:=fun h => by
  refine RdX.mono (A:=fun q => v.ownBlock = some q ∨ q = g4) (RdX.kx (w:=W) ?_ ((KX.grown hg).mono fun q hq => .inl hq.symm)) (fun q hq => ?_) (Nat.le_refl K)
  ·
   refine h.add.mono (fun q hq => ?_) (Nat.le_refl K)
   rcases hq with hq | rfl
   ·
    exact .inl hq
   ·
    rcases hG with e | e
    ·
     exact .inl e
    ·
     exact .inr (by omega)
  ·
   have:g4 = q:=by simpa [Value.ownBlock] using hq
   exact .inr this.symm
 refine ⟨_,ho,fun j hj => ?_⟩
 by_cases e:j < n
 ·
  obtain ⟨ra',rc',x1,x2⟩:=hx j e
  exact ⟨ra',rc',by rw [List.getElem?_append_left (by omega)]; exact x1,up x2⟩
 ·
  obtain rfl:j = n:=by omega
  refine ⟨ra,rc,?_,up hz⟩
  rw [List.getElem?_append_right (by omega),hl,Nat.sub_self]; rfl
theorem MN.kept (h:MN K m F w v n) (k:Kept w w'):MN K m F w' v n:=by
 obtain ⟨ao,cap,rfl,h⟩:=h
 refine ⟨ao,cap,rfl,fun h0 => ?_⟩
 obtain ⟨b,off,rfl,hb,hc⟩:=h h0
 refine ⟨b,off,rfl,Nat.lt_of_lt_of_le hb k.size,fun i hi => ?_⟩
 obtain ⟨ra,rc,x1,x2⟩:=hc i hi
 exact ⟨ra,rc,by rw [Below.cell k (p:=⟨b,off + i,none⟩) hb]; exact x1,x2.kept k⟩
theorem MN.congr (h:MN K m F w v n) (e:∀ i,i < n→∀ j,j < m→F i j = F' i j):MN K m F' w v n:=by
 obtain ⟨ao,cap,rfl,h⟩:=h
 refine ⟨ao,cap,rfl,fun h0 => ?_⟩
 obtain ⟨b,off,rfl,hb,hc⟩:=h h0
 refine ⟨b,off,rfl,hb,fun i hi => ?_⟩
 obtain ⟨ra,rc,x1,x2⟩:=hc i hi
 exact ⟨ra,rc,x1,x2.congr (e i hi)⟩
theorem MN.at {ao:Option Addr} {cap:Nat} (h:MN K m F w (.slice ao n cap) n) {i:Nat} (hi:i < n):∃ b off ra rc,ao = some ⟨b,off,none⟩∧b < w.heap.size∧(∀ V,Kept w V→V.cell? ⟨b,off + i,none⟩ = some (.slice ra m rc))∧RdX (fun _ => False) K (F i) w (.slice ra m rc) m:=by
 obtain ⟨_,_,e,h⟩:=h
 cases e
 obtain ⟨b,off,rfl,hb,hc⟩:=h (by omega)
 obtain ⟨ra,rc,x1,x2⟩:=hc i hi
 exact ⟨b,off,ra,rc,rfl,hb,fun V k => by rw [Below.cell k (p:=⟨b,off + i,none⟩) hb]; exact x1,x2⟩
theorem MN.shape (h:MN K m F w v n):∃ ao cap,v = .slice ao n cap:=by
 obtain ⟨ao,cap,rfl,_⟩:=h
 exact ⟨ao,cap,rfl⟩
end
def MNA (A:Nat→Prop) (K m:Nat) (F:Nat→Nat→Int) (w:World) (v:Value) (n:Nat):Prop :=
 ∃ ao cap,v = .slice ao n cap∧(0 < n→∃ b off:Nat,ao = some ⟨b,off,none⟩∧b < w.heap.size∧¬ A b∧∀ i,i < n→∃ ra rc,w.cell? ⟨b,off + i,none⟩ = some (.slice ra m rc)∧RdX A K (F i) w (.slice ra m rc) m)
def MOA (A:Nat→Prop) (P K m:Nat) (F:Nat→Nat→Int) (w:World) (v:Value) (n:Nat):Prop :=
 ∃ hs:List Value,w.ownsRow P 52 1 v n hs∧(∀ b,v.ownBlock = some b→¬ A b)∧∀ i,i < n→∃ ra rc,hs[i]? = some (.slice ra m rc)∧RdX (fun q => A q ∨ v.ownBlock = some q) K (F i) w (.slice ra m rc) m
section
variable {A A':Nat→Prop} {P K K' m n:Nat} {F F':Nat→Nat→Int} {w w' W W4:World} {v:Value}
theorem MNA.mn (h:MNA A K m F w v n):MN K m F w v n:=by
 obtain ⟨ao,cap,rfl,h⟩:=h
 refine ⟨ao,cap,rfl,fun h0 => ?_⟩
 obtain ⟨b,off,rfl,hb,hn,hc⟩:=h h0
 refine ⟨b,off,rfl,hb,fun i hi => ?_⟩
 obtain ⟨ra,rc,x1,x2⟩:=hc i hi
 exact ⟨ra,rc,x1,x2.mono (fun q h => h.elim) (Nat.le_refl K)⟩
theorem MNA.kx (h:MNA A K m F w v n) (k:KX A w w'):MNA A K m F w' v n:=by
 obtain ⟨ao,cap,rfl,h⟩:=h
 refine ⟨ao,cap,rfl,fun h0 => ?_⟩
 obtain ⟨b,off,rfl,hb,hn,hc⟩:=h h0
 refine ⟨b,off,rfl,Nat.lt_of_lt_of_le hb k.size,hn,fun i hi => ?_⟩
 obtain ⟨ra,rc,x1,x2⟩:=hc i hi
 exact ⟨ra,rc,(World.cell?_of_block (a:=⟨b,off + i,none⟩) (k.block b hb hn)).trans x1,x2.kx k⟩
theorem MNA.kept (h:MNA A K m F w v n) (k:Kept w w'):MNA A K m F w' v n:=h.kx (KX.of k)
theorem MNA.mono (h:MNA A K m F w v n) (hA:∀ q,A' q→A q) (hK:K≤K'):MNA A' K' m F w v n:=by
 obtain ⟨ao,cap,rfl,h⟩:=h
 refine ⟨ao,cap,rfl,fun h0 => ?_⟩
 obtain ⟨b,off,rfl,hb,hn,hc⟩:=h h0
 refine ⟨b,off,rfl,hb,fun h => hn (hA b h),fun i hi => ?_⟩
 obtain ⟨ra,rc,x1,x2⟩:=hc i hi
 exact ⟨ra,rc,x1,x2.mono hA hK⟩
theorem MNA.add (h:MNA A K m F w v n):MNA (fun q => A q ∨ w.heap.size≤q) K m F w v n:=by
 obtain ⟨ao,cap,rfl,h⟩:=h
 refine ⟨ao,cap,rfl,fun h0 => ?_⟩
 obtain ⟨b,off,rfl,hb,hn,hc⟩:=h h0
 refine ⟨b,off,rfl,hb,fun h => h.elim hn (fun h => by omega),fun i hi => ?_⟩
 obtain ⟨ra,rc,x1,x2⟩:=hc i hi
 exact ⟨ra,rc,x1,x2.add⟩
theorem MNA.congr (h:MNA A K m F w v n) (e:∀ i,i < n→∀ j,j < m→F i j = F' i j):MNA A K m F' w v n:=by
 obtain ⟨ao,cap,rfl,h⟩:=h
 refine ⟨ao,cap,rfl,fun h0 => ?_⟩
 obtain ⟨b,off,rfl,hb,hn,hc⟩:=h h0
 refine ⟨b,off,rfl,hb,hn,fun i hi => ?_⟩
 obtain ⟨ra,rc,x1,x2⟩:=hc i hi
 exact ⟨ra,rc,x1,x2.congr (e i hi)⟩
theorem MNA.at {ao:Option Addr} {cap:Nat} (h:MNA A K m F w (.slice ao n cap) n) {i:Nat} (hi:i < n):∃ b off ra rc,ao = some ⟨b,off,none⟩∧b < w.heap.size∧(∀ V,KX A w V→V.cell? ⟨b,off + i,none⟩ = some (.slice ra m rc))∧RdX A K (F i) w (.slice ra m rc) m:=by
 obtain ⟨_,_,e,h⟩:=h
 cases e
 obtain ⟨b,off,rfl,hb,hn,hc⟩:=h (by omega)
 obtain ⟨ra,rc,x1,x2⟩:=hc i hi
 exact ⟨b,off,ra,rc,rfl,hb,fun V k => (World.cell?_of_block (a:=⟨b,off + i,none⟩) (k.block b hb hn)).trans x1,x2⟩
theorem MNA.shape (h:MNA A K m F w v n):∃ ao cap,v = .slice ao n cap:=by
 obtain ⟨ao,cap,rfl,_⟩:=h
 exact ⟨ao,cap,rfl⟩
theorem MOA.nil (A:Nat→Prop) (P K m:Nat) (F:Nat→Nat→Int) (w:World):MOA A P K m F w (.slice none 0 0) 0:=⟨[],World.ownsRow_nil _ _ _ _,(fun b h => by cases h),fun _ hj => absurd hj (Nat.not_lt_zero _)⟩
theorem MOA.kept (h:MOA A P K m F w v n) (k:Kept w w'):MOA A P K m F w' v n:=by
 obtain ⟨hs,ho,hA,hx⟩:=h
 refine ⟨hs,own_keptK ho k,hA,fun i hi => ?_⟩
 obtain ⟨ra,rc,x1,x2⟩:=hx i hi
 exact ⟨ra,rc,x1,x2.kept k⟩
theorem MOA.mna (h:MOA A P K m F w v n):MNA A K m F w v n:=by
 obtain ⟨hs,ho,hA,hx⟩:=h
 obtain ⟨ao,cap,rfl⟩:=own_shape ho
 refine ⟨ao,cap,rfl,fun h0 => ?_⟩
 rcases ho.2 with ⟨_,e⟩ | ⟨g,cap',cur,e,_⟩
 ·
  omega
 ·
  cases e
  refine ⟨g,0,rfl,(World.ownsRow.lt ho g rfl).2,hA g rfl,fun i hi => ?_⟩
  obtain ⟨ra,rc,x1,x2⟩:=hx i hi
  exact ⟨ra,rc,by rw [Nat.zero_add]; exact (ho.cellAt _ (by omega)).trans x1,x2.mono (fun q h => .inl h) (Nat.le_refl K)⟩
theorem MOA.snoc {g4 cap4:Nat} {ra:Option Addr} {rc:Nat} (hA:∀ q,A q→q < W.heap.size) (hs:List Value) (hl:hs.length = n) (hv:∀ b,v.ownBlock = some b→¬ A b)
  (hx:∀ i,i < n→∃ ra rc,hs[i]? = some (.slice ra m rc)∧RdX (fun q => A q ∨ v.ownBlock = some q) K (F i) W (.slice ra m rc) m)
  (hz:RdX (fun q => A q ∨ v.ownBlock = some q) K (F n) W (.slice ra m rc) m) (ho:W4.ownsRow P 52 1 (.slice (some ⟨g4,0,none⟩) (n + 1) cap4) (n + 1) (hs ++ [.slice ra m rc])) (hg:W.grownBy W4 v.ownBlock) (hG:v.ownBlock = some g4 ∨ g4 = W.heap.size) :
  MOA A P K m F W4 (.slice (some ⟨g4,0,none⟩) (n + 1) cap4) (n + 1):=by
 have up:∀ {u:Value} {zs:Nat→Int},RdX (fun q => A q ∨ v.ownBlock = some q) K zs W u m→RdX (fun q => A q ∨ Value.ownBlock (.slice (some ⟨g4,0,none⟩) (n + 1) cap4) = some q) K zs W4 u m:=fun h => by
  refine RdX.mono (A:=fun q => A q ∨ v.ownBlock = some q ∨ q = g4) (RdX.kx (w:=W) ?_ ((KX.grown hg).mono fun q hq => .inr (.inl hq.symm))) (fun q hq => ?_) (Nat.le_refl K)
  ·
   refine h.add.mono (fun q hq => ?_) (Nat.le_refl K)
   rcases hq with hq | hq | rfl
   ·
    exact .inl (.inl hq)
   ·
    exact .inl (.inr hq)
   ·
    rcases hG with e | e
    ·
     exact .inl (.inr e)
    ·
     exact .inr (by omega)
  ·
   rcases hq with hq | hq
   ·
    exact .inl hq
   ·
    have:g4 = q:=by simpa [Value.ownBlock] using hq
    exact .inr (.inr this.symm)
 refine ⟨_,ho,fun b hb hq => ?_,fun j hj => ?_⟩
 ·
  have hb:g4 = b:=by simpa [Value.ownBlock] using hb
  subst hb
  rcases hG with e | e
  ·
   exact hv _ e hq
  ·
   have:=hA _ hq; omega
 by_cases e:j < n
 ·
  obtain ⟨ra',rc',x1,x2⟩:=hx j e
  exact ⟨ra',rc',by rw [List.getElem?_append_left (by omega)]; exact x1,up x2⟩
 ·
  obtain rfl:j = n:=by omega
  refine ⟨ra,rc,?_,up hz⟩
  rw [List.getElem?_append_right (by omega),hl,Nat.sub_self]; rfl
end
theorem nis_len {w:World} {s:Bool} {ao:Option Addr} {k cap L:Nat} {z:Int} (h:D.NIs w s (.slice ao k cap) z) (hz:z.natAbs < 65536 ^ L):k≤L:=by
 obtain ⟨l,hs,hr,rfl⟩:=h
 have e:=dsl_len hs
 have hv:(D.int s l).natAbs = D.val l:=by unfold D.int; cases s <;> simp
 rw [hv] at hz
 rw [e]
 exact D.len_of_lt hr.tr hz
theorem nis_abs {w:World} {s:Bool} {ao:Option Addr} {k cap L:Nat} {z:Int} (h:D.NIs w s (.slice ao k cap) z) (hk:k≤L):z.natAbs < 65536 ^ L:=by
 obtain ⟨l,hs,hr,rfl⟩:=h
 have e:=dsl_len hs
 have hv:(D.int s l).natAbs = D.val l:=by unfold D.int; cases s <;> simp
 rw [hv]
 exact Nat.lt_of_lt_of_le (D.val_lt hs.bd) (Nat.pow_le_pow_right (by decide) (by omega))
theorem nis_far {t:TypeId} {w:World} {p:Nat} {b0:Bool} {o0:Option Addr} {k0 c0:Nat} (r:RowL t w p [.bool b0,.slice o0 k0 c0]) {s:Bool} {v:Value} {z:Int} (h:D.NIs w s v z) {w':World} (k:KX (fun q => q = p) w w'):D.NIs w' s v z:=by
 obtain ⟨l,⟨hb,ao,cap,rfl,hx⟩,hr,hi⟩:=h
 refine ⟨l,⟨hb,ao,cap,rfl,fun h0 => ?_⟩,hr,hi⟩
 obtain ⟨h1,b,off,rfl,hlt,hc⟩:=hx h0
 have hne:b ≠ p:=by
  intro e
  subst e
  obtain ⟨cs,e1,e2,e3⟩:=r
  have h2:=hc 0 h0
  unfold World.cell? at h2
  simp only [e1] at h2
  have e2:cs.size = 2:=e2
  match off,h2 with
  | 0,h2 => rw [show 0 + 0 = 0 by rfl,e3 0 (show 0 < 2 by decide)] at h2; cases h2
  | 1,h2 => rw [show 1 + 0 = 1 by rfl,e3 1 (show 1 < 2 by decide)] at h2; cases h2
  | o + 2,h2 => rw [Array.getElem?_eq_none (by omega)] at h2; cases h2
 refine ⟨h1,b,off,rfl,Nat.lt_of_lt_of_le hlt k.size,fun j hj => ?_⟩
 rw [World.cell?_of_block (k.block b hlt hne)]
 exact hc j hj
end Bp
end Go.Proofs.YtdcgdpbgnijnpaaGreat

namespace Go.Proofs.YtdcgdpbgnijnpaaGreat
open Go.RowKit
open V (RowL RowL.alloc RowL.lt RowL.cell RowL.fz RowL.kept RowL.set RowL.far)
open Sp (hid own_kept own_keptK own_shape info_parts)
open Sy
open Bm (MxR ZsR mxr_at mxr_kept zsr_at zsr_kept cel_at mOk)
namespace Bp
theorem dx_new {A:Nat→Prop} {K:Nat} {w w':World} {s:Bool} {ao:Option Addr} {k cap:Nat} {z:Int} (h:D.NIs w' s (.slice ao k cap) z) (hk:k≤K) (hn:0 < k→∃ b,ao = some ⟨b,0,none⟩∧w.heap.size≤b) (hA:∀ q,A q→q < w.heap.size):DX A K w' s (.slice ao k cap) z :=
 ⟨h,ao,k,cap,rfl,hk,fun h0 b o p e hq => by
  obtain ⟨b',e',hb⟩:=hn h0
  rw [e'] at e
  injection e with e
  injection e with e
  have:=hA _ hq
  omega⟩
set_option maxRecDepth 100000 in
set_option maxHeartbeats 40000000 in
theorem take14_any (bo:Option Addr) (n cap:Nat) (Bs:List ZE) (w:World) (h:ZsR w bo Bs) (hl:n = Bs.length) (hn:n≤61) (hr:∀ j,j < n→zsB Bs j = true) :
  Calls Tryz.prog 40 #[.slice bo n cap] w fun e w' => Kept w w'∧∃ ao cap',e = .returned (.slice ao n cap')∧RdX (fun _ => False) 144 (zsF Bs) w' (.slice ao n cap') n:=by
 have HL:=hid (And.intro h (And.intro hl hr))
 clear h hl hr
 obtain ⟨i0,hi0,hz0,hz1,hz2⟩:=info_parts info_rn
 go_enter Tryz.func40,Tryz.ntmps40
 --%A
 go_wp2_with fail
 go_loopw [3,4] (fun v3 v4 wr => ∃ i:Nat,i≤n∧v4 = .int .i64 (i:Int)∧Hid (Kept w wr)∧Hid (NO (fun _ => False) w.heap.size 144 (zsF Bs) wr v3 i)) (fun _ v4 _ => n - (intOf v4).toNat)
 case atStart => exact ⟨0,Nat.zero_le _,rfl,Kept.refl _,NO.nil _ _ _ _ _⟩
 case round =>
  obtain ⟨i,hi,rfl,HK,HN⟩:=hrel
  generalize wr = w4 at HK HN ⊢
  by_cases hit:i < n
  ·
   have hii:(i:Int) < (n:Int):=by omega
   have hi0':(0:Int)≤(i:Int):=by omega
   have hiB:i < Bs.length:=by have:=HL.out.2.1; omega
   obtain ⟨b1,o1,m1,zo1,zc1,zl1,rfl,hB1,hcb,okb⟩:=zsr_at (zsr_kept HL.out.1 HK.out) hiB
   have c1:=(hcb w4 (Kept.refl _)).1
   have c2:=(hcb w4 (Kept.refl _)).2
   have hrr:zsB Bs i = true:=HL.out.2.2 i hit
   have hzv:zsF Bs i = M.int m1 zl1:=by unfold zsF; rw [getD_in hiB,hB1]
   unfold zsB at hrr
   rw [getD_in hiB,hB1] at hrr
   have hle:=(right_R.1 hrr).1
   have hle:zl1.length≤72:=hle
   obtain ⟨zk,hzk⟩:∃ l,l = zl1.length:=⟨_,rfl⟩
   have htk:=D.Take_new m1 zo1 zk zc1 zl1 w4 (by rw [hzk]; exact okb.1) (by omega)
   rw [← hzk] at c2
   have HZ:=hid (And.intro hzk (And.intro hzv hle))
   clear hcb okb hB1 hzk hrr hzv hle
   --%B
   go_wp2_with fail
   refine htk.mono ?_
   rintro e w5 ⟨hk,s,ao,k,cp,rfl,hni,hkk,hnw⟩
   obtain ⟨xs,ho,hA,hx⟩:=HN.out
   have H4:=hid (And.intro (HK.out.trans hk) (And.intro (own_keptK ho hk) (And.intro hA (fun j (hj:j < i) => by
    obtain ⟨s,ao,k,cap,e1,e2,e3⟩:=hx j hj
    exact (⟨s,ao,k,cap,e1,e2,e3.kept hk⟩:∃ s ao k cap,xs[j * 2]? = some (.bool s)∧xs[j * 2 + 1]? = some (.slice ao k cap)∧DX (fun q => False ∨ Value.ownBlock u3 = some q) 144 w5 s (.slice ao k cap) (zsF Bs j))))))
   have hd:DX (fun q => False ∨ Value.ownBlock u3 = some q) 144 w5 s (.slice ao k cp) (zsF Bs i):=by
    rw [HZ.out.2.1]
    refine dx_new hni (by have:=HZ.out.1; have:=HZ.out.2.2; omega) hnw (fun q hq => hq.elim (fun h => h.elim) fun hq => (World.ownsRow.lt ho q hq).2)
   have HD:=hid hd
   have hws:w.heap.size≤w5.heap.size:=(HK.out.trans hk).size
   clear ho hA hx hk hni hkk hnw hd htk c1 c2
   --%C
   go_wp2_with (at_builtin; refine wpList_append_lies _ rfl (.tmp 11) (.tmp 17) 52 rfl w.heap.size 51 i0 (.agg #[.bool false,.slice none 0 0]) 2 32 und_rns hi0 hz0 hz1 hz2 rfl (by decide) u3 i xs rfl (by exact World.ownsRow.alloc H4.out.2.1 _) ⟨w5.heap.size,0,none⟩ 1 1 [.bool s,.slice ao k cp] rfl rfl (cell2 w5 _ _ _) (fun u hu => by simp at hu; rcases hu with rfl | rfl <;> rfl) (by omega) (by unfold maxLen; omega) (by omega) (by simp; omega) _ rfl ?_)
   intro G cap2 w6 hO hgr hG _
   have kA:=(Kept.refl w5).alloc (.cells #[.bool s,.slice ao k cp] 51)
   have hOw:=World.ownsRow.alloc H4.out.2.1 (.cells #[.bool s,.slice ao k cp] 51)
   have hG:u3.ownBlock = some G ∨ G = (w5.alloc (.cells #[.bool s,.slice ao k cp] 51)).heap.size:=hG.imp id fun e => by rw [alloc_sz]; exact e
   generalize w5.alloc (.cells #[.bool s,.slice ao k cp] 51) = W5 at kA hgr hOw hG
   have KW:Kept w w6:=Below.grown (H4.out.1.trans kA) hgr (H4.out.1.trans kA).size (fun q hq => (World.ownsRow.lt hOw q hq).1)
   have HNn:=hid (And.intro KW (NO.snoc (A:=fun _ => False) (zs:=zsF Bs) (fun q h => h.elim) xs H4.out.2.1.1 H4.out.2.2.1 (fun j hj => by
    obtain ⟨s,ao,m,cap,e1,e2,e3⟩:=H4.out.2.2.2 j hj
    exact ⟨s,ao,m,cap,e1,e2,e3.kept kA⟩) (HD.out.kept kA) hO hgr hG))
   clear kA hOw hgr hO KW hG
   --%D
   go_wp2_with fail
   go_roundw
   case rel => exact ⟨i + 1,by omega,by go_num,HNn.out.1,HNn.out.2⟩
   case measure => show n - ((i:Int) + 1).toNat < n - (i:Int).toNat; omega
  ·
   have hii:¬ (i:Int) < (n:Int):=by omega
   obtain rfl:i = n:=by omega
   obtain ⟨ao,cap',e⟩:=HN.out.rdx.shape
   subst e
   --%E
   go_wp2_with fail
   go_ret
   exact ⟨HK.out,ao,cap',rfl,HN.out.rdx⟩
theorem cell1 (w:World) (t:TypeId) (a:Value):∀ j u,[a][j]? = some u→(w.alloc (.cells #[a] t)).cell? ((⟨w.heap.size,0,none⟩:Addr).add j) = some u:=fun j u hu => by
 match j,hu with
 | 0,hu => cases hu; simp [Addr.add]
theorem info_rns:(Tryz.prog.info? 52).map (fun i => (i.zero,i.size,i.bytes)) = some (some (.slice none 0 0),1,24):=by kernel_rfl
theorem und_rnss:Tryz.prog.underlying 45 = some (.slice 52):=by kernel_rfl
set_option maxRecDepth 100000 in
set_option maxHeartbeats 40000000 in
theorem square14_new (ao:Option Addr) (n cap:Nat) (L:List LE) (w:World) (h:MxR w ao L) (hl:n = L.length) (hok:mOk L = true) :
  Calls Tryz.prog 23 #[.slice ao n cap] w fun e w' => Kept w w'∧∃ bo cap',e = .returned (.slice bo n cap')∧MNA (fun q => q < w.heap.size) 144 n (matF L) w' (.slice bo n cap') n:=by
 have hn:n≤48:=by
  unfold mOk at hok
  rw [Bool.and_eq_true,decide_eq_true_eq] at hok
  rw [hl]
  exact hok.1
 have HL:=hid (And.intro h (And.intro hl hok))
 clear h hl hok
 obtain ⟨i1,hi1,hy0,hy1,hy2⟩:=info_parts info_rns
 go_enter Tryz.func23,Tryz.ntmps23
 --%F
 go_wp2_with fail
 go_loopw [3,4] (fun v3 v4 wr => ∃ i:Nat,i≤n∧v4 = .int .i64 (i:Int)∧Hid (Kept w wr)∧Hid (MOA (fun q => q < w.heap.size) w.heap.size 144 n (matF L) wr v3 i)) (fun _ v4 _ => n - (intOf v4).toNat)
 case atStart => exact ⟨0,Nat.zero_le _,rfl,Kept.refl _,MOA.nil _ _ _ _ _ _⟩
 case round =>
  obtain ⟨i,hi,rfl,HK,HM⟩:=hrel
  generalize wr = w4 at HK HM ⊢
  by_cases hit:i < n
  ·
   have hii:(i:Int) < (n:Int):=by omega
   have hi0:(0:Int)≤(i:Int):=by omega
   have hiL:i < L.length:=by have:=HL.out.2.1; omega
   obtain ⟨b,off,ra,rc,cs,rfl,hrow,hc,hcs⟩:=mxr_at HL.out.1 hiL
   have HC:=hid (And.intro hc (And.intro hcs (And.intro (show (L.getD i l0).cs = cs by rw [getD_in hiL,hrow]) HL.out.1)))
   have hcok:cOk n (-1) cs = true:=by have:=mOk_row HL.out.2.2 i; rw [HC.out.2.2.1,← HL.out.2.1] at this; exact this
   have hHA:∀ q,(q < w.heap.size ∨ u3.ownBlock = some q)→q < w4.heap.size:=fun q hq => by
    rcases hq with hq | hq
    ·
     exact Nat.lt_of_lt_of_le hq HK.out.size
    obtain ⟨hs,ho,_⟩:=HM.out
    exact (World.ownsRow.lt ho q hq).2
   obtain ⟨W,hmk,hkW,hszW,hNO⟩:=make_ns (A:=fun q => q < w.heap.size ∨ u3.ownBlock = some q) (K:=144) (n:=n) (by omega) w4 hHA
   obtain ⟨g,hg⟩:∃ p,p = w4.heap.size:=⟨_,rfl⟩
   rw [← hg] at hmk hNO
   have c1:=hc W (HK.out.trans hkW)
   obtain ⟨rl,hrl⟩:∃ r,r = cs.length:=⟨_,rfl⟩
   rw [← hrl] at c1
   have HR:=hid (And.intro hrl (And.intro hcok (And.intro hHA hg)))
   have HI:=hid (And.intro hkW (show NO (fun q => q < w.heap.size ∨ u3.ownBlock = some q) w4.heap.size 144 (rowF (cs.take 0)) W (.slice (some ⟨g,0,none⟩) n n) n by rw [← hg]; exact hNO))
   have hrl48:rl≤48:=by
    have:=cOk_len hcok (by omega)
    omega
   clear hc hcs hrl hcok hHA hkW hNO hrow hg hszW
   --%G
   go_wp2_with fail
   clear hmk
   go_loopw [6] (fun v6 wr => ∃ k:Nat,k≤rl∧v6 = .int .i64 (k:Int)∧Hid (Kept w4 wr∧NO (fun q => q < w.heap.size ∨ u3.ownBlock = some q) w4.heap.size 144 (rowF (cs.take k)) wr (.slice (some ⟨g,0,none⟩) n n) n)) (fun v6 _ => rl - (intOf v6).toNat)
   case atStart => exact ⟨0,Nat.zero_le _,rfl,HI.out⟩
   case round =>
    clear HI c1
    obtain ⟨k,hkl,rfl,J⟩:=hrel
    generalize wr = w6 at J ⊢
    have c1:=HC.out.1 w6 (HK.out.trans J.out.1)
    rw [← HR.out.1] at c1
    by_cases hkt:k < rl
    ·
     have hkk:(k:Int) < (rl:Int):=by omega
     have hk0:(0:Int)≤(k:Int):=by omega
     have hkL:k < cs.length:=by have:=HR.out.1; omega
     obtain ⟨b2,o2,y,m,zo,zc,zl,rfl,hce,hcb,okb⟩:=cel_at HC.out.2.1 hkL
     have hg1:=cOk_get HR.out.2.1 k hkL
     rw [hce] at hg1
     have hg1:-1 < y∧y < (n:Int)∧ZE.right ⟨m,zo,zc,zl⟩ = true∧_:=hg1
     obtain ⟨c,rfl⟩:∃ c:Nat,y = (c:Int):=⟨y.toNat,by omega⟩
     have hcn:c < n:=by omega
     have hcn':(c:Int) < (n:Int):=hg1.2.1
     have hc0:(0:Int)≤(c:Int):=by omega
     have hle:zl.length≤72:=(right_R.1 hg1.2.2.1).1
     obtain ⟨zk',hzk⟩:∃ l,l = zl.length:=⟨_,rfl⟩
     have HZ:=hid (And.intro hzk (And.intro hle (And.intro hce (And.intro okb hkL))))
     have KT:Kept w6 w6.drew:=(Kept.refl _).drew
     have sS:=hid (fun (V:World) (K:Kept w V) => show (fun w':World => w'.cell? ⟨b,off + i,none⟩ = some (.slice (some ⟨b2,o2,none⟩) rl rc)∧w'.cell? ⟨b2,o2 + k * 3,none⟩ = some (.int .i64 (c:Int))∧w'.cell? ⟨b2,o2 + k * 3 + 1,none⟩ = some (.bool m)∧w'.cell? ⟨b2,o2 + k * 3 + 2,none⟩ = some (.slice zo zk' zc)) V from ⟨by rw [HR.out.1]; exact HC.out.1 V K,(hcb V K).1,(hcb V K).2.1,by rw [hzk]; exact (hcb V K).2.2⟩)
     have hfz:=(World.ownsRow.frozenAt (show w6.ownsRow w4.heap.size 51 2 (.slice (some ⟨g,0,none⟩) n n) n _ from J.out.2.choose_spec.1))
     clear hcb okb hce hzk hle hg1
     --%H
     go_upto_region 9 with fail
     clear c1
     refine wp_region_held_drew (S:=fun w' => w'.cell? ⟨b,off + i,none⟩ = some (.slice (some ⟨b2,o2,none⟩) rl rc)∧w'.cell? ⟨b2,o2 + k * 3,none⟩ = some (.int .i64 (c:Int))∧w'.cell? ⟨b2,o2 + k * 3 + 1,none⟩ = some (.bool m)∧w'.cell? ⟨b2,o2 + k * 3 + 2,none⟩ = some (.slice zo zk' zc)) (by kernel_rfl) (sS.out _ (HK.out.trans (J.out.1.trans KT))) (fun hHeld => ?_)
     generalize w6.drew = Wd at KT hHeld ⊢
     refine wk 0 hHeld ?_
     refine wk 1 hHeld ?_
     refine wk 2 hHeld ?_
     refine wk 3 hHeld ?_
     refine wk 4 hHeld ?_
     refine wk 5 hHeld ?_
     refine wk 6 hHeld ?_
     refine wk 7 hHeld ?_
     refine wk 8 hHeld ?_
     refine wk 9 hHeld ?_
     refine wk 10 hHeld ?_
     refine wk 11 hHeld ?_
     refine wk 12 hHeld ?_
     refine wk 13 hHeld ?_
     refine wk 14 hHeld ?_
     refine wk 15 hHeld ?_
     refine wk 16 hHeld ?_
     refine wpAnyH_ready (rs:=[17]) (by kernel_rfl) (by simp) ?_
     refine AllReadyH.cons rfl (fun K hK => ?_) AllReadyH.nil
     --%I
     go_simp
     refine (D.Take_new m zo zk' zc zl Wd (by rw [HZ.out.1]; exact HZ.out.2.2.2.1.1.kept (HK.out.trans (J.out.1.trans KT))) (by have:=HZ.out.2.1; omega)).mono ?_
     rintro e u1 ⟨hu1,s,o,kk,cp,rfl,hni,hkk9,hnw⟩
     refine hK.out _ _ (sS.out _ (HK.out.trans (J.out.1.trans (KT.trans hu1)))) (fun hHeld => ?_)
     clear hK K
     have KU:=KT.trans hu1
     have hgB:g < Wd.heap.size:=Nat.lt_of_lt_of_le (World.ownsRow.lt J.out.2.choose_spec.1 g rfl).2 KT.size
     have hNu:=J.out.2.kept KU
     have hput:=hNu.put hcn (dx_new (A:=fun q => (q < w.heap.size ∨ u3.ownBlock = some q) ∨ q = g) (K:=144) hni (by have:=HZ.out.1; have:=HZ.out.2.1; omega) hnw (fun q hq => hq.elim (fun h => Nat.lt_of_lt_of_le (HR.out.2.2.1 q h) (J.out.1.trans KT).size) fun h => by rw [h]; exact hgB))
     have hkp:Kept w4 ((u1.setCell ⟨g,c * 2,none⟩ (.bool s)).setCell ⟨g,c * 2 + 1,none⟩ (.slice o kk cp)):=((J.out.1.trans KU).setCell (by rw [HR.out.2.2.2]; exact Nat.le_refl _) _).setCell (by rw [HR.out.2.2.2]; exact Nat.le_refl _) _
     have HP:=hid (And.intro hkp hput)
     have hgf:=(World.ownsRow.frozenAt (show u1.ownsRow w4.heap.size 51 2 (.slice (some ⟨g,0,none⟩) n n) n _ from hNu.choose_spec.1))
     obtain ⟨xa,hxa⟩:=own_some hNu.choose_spec.1 (show c * 2 < n * 2 by omega)
     obtain ⟨xb,hxb⟩:=own_some hNu.choose_spec.1 (show c * 2 + 1 < n * 2 by omega)
     have f1:=hgf (c * 2)
     have f2:=hgf (c * 2 + 1)
     clear hgf hNu hput hkp hni hnw hu1 KU hgB KT hfz
     refine wk 18 hHeld ?_
     refine wpAnyH_ready (rs:=[19]) (by kernel_rfl) (by simp) ?_
     refine AllReadyH.cons rfl (fun K hK => ?_) AllReadyH.nil
     --%J
     go_simp
     refine hK.out _ _ (sS.out _ (HK.out.trans HP.out.1)) (fun hHeld => ?_)
     clear hK K
     refine wpAnyH_done (by kernel_rfl) ?_ _
     --%K
     go_wp2_with fail
     go_roundw
     case rel => exact ⟨k + 1,by omega,by go_num,HP.out.1,by rw [rowF_take HZ.out.2.2.2.2,HZ.out.2.2.1]; exact HP.out.2⟩
     case measure => show rl - ((k:Int) + 1).toNat < rl - (k:Int).toNat; omega
    ·
     have hkk:¬ (k:Int) < (rl:Int):=by omega
     obtain ⟨hs,ho,hv3,hx⟩:=HM.out.kept J.out.1
     have hrd:RdX (fun q => q < w.heap.size ∨ u3.ownBlock = some q) 144 (matF L i) w6 (.slice (some ⟨g,0,none⟩) n n) n:=by
      have:=J.out.2.rdx
      rw [List.take_of_length_le (by have:=HR.out.1; omega),← HC.out.2.2.1] at this
      exact this
     have H4:=hid (And.intro (HK.out.trans J.out.1) (And.intro ho (And.intro hx hrd)))
     have HV:=hid hv3
     have hws:w.heap.size≤w6.heap.size:=(HK.out.trans J.out.1).size
     clear ho hx hrd hv3
     --%L
     go_wp2_with (at_builtin; refine wpList_append_lies _ rfl (.tmp 44) (.tmp 46) 45 rfl w.heap.size 52 i1 (.slice none 0 0) 1 24 und_rnss hi1 hy0 hy1 hy2 rfl (by decide) u3 i hs rfl (by exact World.ownsRow.alloc H4.out.2.1 _) ⟨w6.heap.size,0,none⟩ 1 1 [.slice (some ⟨g,0,none⟩) n n] rfl rfl (cell1 w6 _ _) (fun u hu => by simp at hu; rcases hu with rfl; rfl) (by omega) (by unfold maxLen; omega) (by omega) (by simp; omega) _ rfl ?_)
     intro G cap2 w7 hO hgr hG _
     have kA:=(Kept.refl w6).alloc (.cells #[.slice (some ⟨g,0,none⟩) n n] 52)
     have hOw:=World.ownsRow.alloc H4.out.2.1 (.cells #[.slice (some ⟨g,0,none⟩) n n] 52)
     have hG:u3.ownBlock = some G ∨ G = (w6.alloc (.cells #[.slice (some ⟨g,0,none⟩) n n] 52)).heap.size:=hG.imp id fun e => by rw [alloc_sz]; exact e
     generalize w6.alloc (.cells #[.slice (some ⟨g,0,none⟩) n n] 52) = W5 at kA hgr hOw hG
     have KW:Kept w w7:=Below.grown (H4.out.1.trans kA) hgr (H4.out.1.trans kA).size (fun q hq => (World.ownsRow.lt hOw q hq).1)
     have HNn:=hid (And.intro KW (MOA.snoc (A:=fun q => q < w.heap.size) (F:=matF L) (fun q hq => Nat.lt_of_lt_of_le hq (H4.out.1.trans kA).size) hs (by have:=H4.out.2.1.1; omega) HV.out (fun j hj => by
      obtain ⟨ra,rc,e1,e2⟩:=H4.out.2.2.1 j hj
      exact ⟨ra,rc,e1,e2.kept kA⟩) (H4.out.2.2.2.kept kA) hO hgr hG))
     clear kA hOw hgr hO KW hG
     --%M
     go_wp2_with fail
     go_roundw
     case rel => exact ⟨i + 1,by omega,by go_num,HNn.out.1,HNn.out.2⟩
     case measure => show n - ((i:Int) + 1).toNat < n - (i:Int).toNat; omega
  ·
   have hii:¬ (i:Int) < (n:Int):=by omega
   obtain rfl:i = n:=by omega
   obtain ⟨bo,cap',e⟩:=HM.out.mna.shape
   subst e
   --%N
   go_wp2_with fail
   go_ret
   exact ⟨HK.out,bo,cap',rfl,HM.out.mna⟩
end Bp
end Go.Proofs.YtdcgdpbgnijnpaaGreat

namespace Go.Proofs.YtdcgdpbgnijnpaaGreat
open Go.RowKit
open V (RowL RowL.alloc RowL.lt RowL.cell RowL.fz RowL.kept RowL.block RowL.set RowL.far)
open Sp (hid own_kept own_keptK own_shape info_parts brow brow_len brow_at brow_set info_bool und_bools make_bools wpList_src own_none)
namespace Bp
def BLs (w:World) (ao:Option Addr) (n:Nat) (f:Nat→Bool):Prop:=0 < n→∃ b off:Nat,ao = some ⟨b,off,none⟩∧b < w.heap.size∧∀ j,j < n→w.cell? ⟨b,off + j,none⟩ = some (.bool (f j))
theorem BLs.kept {w w':World} {ao:Option Addr} {n:Nat} {f:Nat→Bool} (h:BLs w ao n f) (k:Kept w w'):BLs w' ao n f:=fun h0 => by
 obtain ⟨b,off,rfl,hb,hc⟩:=h h0
 exact ⟨b,off,rfl,Nat.lt_of_lt_of_le hb k.size,fun j hj => (Below.cell k (p:=⟨b,off + j,none⟩) hb).trans (hc j hj)⟩
theorem BLs.kx {T:Nat→Prop} {w w':World} {g n:Nat} {f:Nat→Bool} (h:BLs w (some ⟨g,0,none⟩) n f) (k:KX T w w') (hg:0 < n→¬ T g):BLs w' (some ⟨g,0,none⟩) n f:=fun h0 => by
 have hg:=hg h0
 obtain ⟨b,off,e,hb,hc⟩:=h h0
 injection e with e
 injection e with e1 e2
 subst e1
 subst e2
 exact ⟨g,0,rfl,Nat.lt_of_lt_of_le hb k.size,fun j hj => (World.cell?_of_block (a:=⟨g,0 + j,none⟩) (k.block g hb hg)).trans (hc j hj)⟩
theorem BLs.blt {w:World} {g n:Nat} {f:Nat→Bool} (h:BLs w (some ⟨g,0,none⟩) n f) (h0:0 < n):g < w.heap.size:=by
 obtain ⟨b,off,e,hb,_⟩:=h h0
 injection e with e
 injection e with e1 e2
 omega
theorem BLs.row {w:World} {g n:Nat} {f:Nat→Bool} (r:RowL 4 w g (brow n f)):BLs w (some ⟨g,0,none⟩) n f:=fun _ => ⟨g,0,rfl,r.lt,fun j hj => by rw [Nat.zero_add]; exact r.cell j _ (brow_at hj)⟩
theorem BLs.own {w:World} {B g n c:Nat} {f:Nat→Bool} (h:w.ownsRow B 4 1 (.slice (some ⟨g,0,none⟩) n c) n (brow n f)):BLs w (some ⟨g,0,none⟩) n f:=fun _ => ⟨g,0,rfl,(World.ownsRow.lt h g rfl).2,fun j hj => by rw [Nat.zero_add]; exact (h.cellAt j (by omega)).trans (brow_at hj)⟩
theorem brow_one (n:Nat) (f:Nat→Bool):∀ u ∈ brow n f,u.oneCell' = true:=fun u hu => by
 unfold brow at hu
 obtain ⟨k,_,rfl⟩:=List.mem_map.1 hu
 rfl
theorem BLs.src {w:World} {ao:Option Addr} {n:Nat} {f:Nat→Bool} (h:BLs w ao n f):0 < n→∃ ad,ao = some ad∧∀ j u,(brow n f)[j]? = some u→w.cell? (ad.add j) = some u:=fun h0 => by
 obtain ⟨b,off,rfl,hb,hc⟩:=h h0
 refine ⟨_,rfl,fun j u hu => ?_⟩
 have hj:j < n:=by have:=(List.getElem?_eq_some_iff.1 hu).1; rw [brow_len] at this; exact this
 rw [brow_at hj] at hu
 cases hu
 by_cases e:j = 0
 ·
  subst e
  have h1:=hc 0 hj
  rw [Nat.add_zero] at h1
  simp [Addr.add,h1]
 ·
  simp [Addr.add,e,hc j hj]
set_option maxRecDepth 100000 in
set_option maxHeartbeats 8000000 in
theorem all14_any (n:Nat) (hn:n≤1000) (w:World) :
  Calls Tryz.prog 24 #[.int .i64 (n:Int)] w fun e w' => Kept w w'∧∃ g,w.heap.size≤g∧e = .returned (.slice (some ⟨g,0,none⟩) n n)∧BLs w' (some ⟨g,0,none⟩) n (fun _ => true):=by
 have hm:=make_bools (n:=n) (by omega) w
 have r0:=RowL.alloc 4 w (brow n fun _ => false)
 have k0:=(Kept.refl w).alloc (.cells (brow n fun _ => false).toArray 4)
 obtain ⟨g,hg⟩:∃ p,p = w.heap.size:=⟨_,rfl⟩
 rw [← hg] at hm r0
 have hgw:=hid (show w.heap.size≤g by rw [hg]; exact Nat.le_refl _)
 generalize w.alloc (.cells (brow n fun _ => false).toArray 4) = w1 at hm r0 k0
 have HQ:=hid (And.intro k0 (show RowL 4 w1 g (brow n fun j => decide (j < 0)) from by
  have e:(brow n fun j => decide (j < 0)) = brow n fun _ => false:=by first | (congr 1; funext j; simp) | congr 1 | simp
  rw [e]; exact r0))
 clear hg k0 r0
 go_enter Tryz.func24,Tryz.ntmps24
 go_wp2_with fail
 clear hm
 go_loopw [4] (fun v4 wr => ∃ i:Nat,i≤n∧v4 = .int .i64 (i:Int)∧Hid (Kept w wr∧RowL 4 wr g (brow n fun j => decide (j < i)))) (fun v4 _ => n - (intOf v4).toNat)
 case atStart => exact ⟨0,Nat.zero_le _,rfl,HQ.out⟩
 case round =>
  clear HQ
  obtain ⟨i,hi,rfl,H⟩:=hrel
  generalize wr = w2 at H ⊢
  by_cases hit:i < n
  ·
   have hii:(i:Int) < (n:Int):=by omega
   have hi0:(0:Int)≤(i:Int):=by omega
   have x0:=H.out.2.cell i _ (brow_at hit)
   have f0:=H.out.2.fz i
   have HN:=hid (And.intro (H.out.1.setCell (p:=⟨g,i,none⟩) hgw.out (.bool true)) (show RowL 4 (w2.setCell ⟨g,i,none⟩ (.bool true)) g (brow n fun j => decide (j < i + 1)) from by
    have r:=H.out.2.set i (.bool true)
    rw [brow_set] at r
    have e:(brow n fun j => if j = i then true else decide (j < i)) = brow n fun j => decide (j < i + 1):=by
     congr 1; funext j
     by_cases e:j = i
     ·
      subst e; simp
     ·
      rw [if_neg e]
      have:(j < i) = (j < i + 1):=propext ⟨fun h => by omega,fun h => by omega⟩
      simp only [this]
    rw [e] at r
    exact r))
   --%A
   go_wp2_with fail
   go_roundw
   case rel => exact ⟨i + 1,by omega,by go_num,HN.out⟩
   case measure => show n - ((i:Int) + 1).toNat < n - (i:Int).toNat; omega
  ·
   have hii:¬ (i:Int) < (n:Int):=by omega
   obtain rfl:i = n:=by omega
   --%B
   go_wp2_with fail
   go_ret
   refine ⟨H.out.1,g,hgw.out,rfl,?_⟩
   have hb:=BLs.row H.out.2
   intro h0
   obtain ⟨b,off,e,hb1,hc⟩:=hb h0
   exact ⟨b,off,e,hb1,fun j hj => by rw [hc j hj]; show some (Value.bool (decide (j < i))) = some (Value.bool true); rw [decide_eq_true hj]⟩
set_option maxRecDepth 100000 in
set_option maxHeartbeats 8000000 in
theorem marked14_any (ao:Option Addr) (n c a:Nat) (f:Nat→Bool) (w:World) (h:BLs w ao n f) (hn:n≤1000) (ha:a < n) :
  Calls Tryz.prog 29 #[.slice ao n c,.int .i64 (a:Int)] w fun e w' => Kept w w'∧∃ g c',w.heap.size≤g∧e = .returned (.slice (some ⟨g,0,none⟩) n c')∧BLs w' (some ⟨g,0,none⟩) n (fun j => f j && decide (j ≠ a)):=by
 obtain ⟨i0,hi0,hz0,hz1,hz2⟩:=info_parts info_bool
 have hsrc:=(h.kept ((Kept.refl w).alloc (.cells #[] 4))).src
 have HL:=hid h
 have haI:(a:Int) < (n:Int):=by omega
 have ha0:(0:Int)≤(a:Int):=by omega
 clear h
 go_enter Tryz.func29,Tryz.ntmps29
 --%C
 go_wp2_with (at_builtin; refine wpList_src rfl (.tmp 6) (.tmp 7) 74 rfl w.heap.size 4 i0 (.bool false) 1 1 und_bools hi0 hz0 hz1 hz2 rfl (by decide) w.heap.size rfl (own_none 4 1 w w.heap.size (Nat.le_refl _)) ao n c (brow n f) rfl (by rw [brow_len]; omega) hsrc (brow_one n f) (by unfold maxLen; omega) (by omega) (by rw [World.size_alloc]; omega) ?_)
 intro g cap w1 hO hgr
 have K1:Kept w w1:=X.kept_grown ((Kept.refl w).alloc (.cells #[] 4)) hgr (Nat.le_refl _)
 have x0:=(hO.cellAt a (by omega)).trans (brow_at (f:=f) ha)
 have f0:=hO.frozenAt a
 have hg:=World.ownsRow.lt hO g rfl
 have hst:=(hO.stored a (.bool false)).1
 rw [brow_set] at hst
 have HN:=hid (And.intro (K1.setCell (p:=⟨g,a,none⟩) hg.1 (.bool false)) (BLs.own hst))
 have HG:=hid hg.1
 clear hO hgr K1 hg hst hsrc
 --%D
 go_wp2_with fail
 go_ret
 refine ⟨HN.out.1,g,cap,HG.out,rfl,fun h0 => ?_⟩
 obtain ⟨b,off,e,hb1,hc⟩:=HN.out.2 h0
 refine ⟨b,off,e,hb1,fun j hj => ?_⟩
 rw [hc j hj]
 show some (Value.bool (if j = a then false else f j)) = some (Value.bool (f j && decide (j ≠ a)))
 by_cases e:j = a
 ·
  subst e; simp
 ·
  rw [if_neg e]; simp [e]
def wideB (n lm:Nat) (M:Nat→Nat→Int) (r q:Nat→Bool):Bool:=anyB (fun i => anyB (fun k => r i && (q k && decide (4294967296 ^ lm≤(M i k).natAbs))) n) n
end Bp
end Go.Proofs.YtdcgdpbgnijnpaaGreat

namespace Go.Proofs.YtdcgdpbgnijnpaaGreat
open Go.RowKit
open Sp (hid)
open Ba (wideZ)
namespace Bp
theorem nis_wide {w:World} {s:Bool} {ao:Option Addr} {k cap lm:Nat} {z:Int} (h:D.NIs w s (.slice ao k cap) z):wideZ lm z = decide (lm < (k + 1) / 2):=by
 have hp:(4294967296:Nat) ^ lm = 65536 ^ (2 * lm):=by rw [Nat.pow_mul]
 unfold wideZ
 rw [hp]
 by_cases e:lm < (k + 1) / 2
 ·
  rw [decide_eq_true e,decide_eq_true_eq]
  refine Nat.le_of_not_lt fun hlt => ?_
  have:=nis_len h hlt
  omega
 ·
  rw [decide_eq_false e,decide_eq_false_iff_not]
  have:=nis_abs (L:=2 * lm) h (by omega)
  omega
def wideL (n lm:Nat) (M:Nat→Nat→Int) (r q:Nat→Bool):Bool:=anyB (fun i => anyB (fun k => r i && (q k && wideZ lm (M i k))) n) n
set_option maxRecDepth 100000 in
set_option maxHeartbeats 20000000 in
theorem widein14_any (so ro qo:Option Addr) (n sc rc qc lm K:Nat) (M:Nat→Nat→Int) (r q:Nat→Bool) (w:World) (h:MN K n M w (.slice so n sc) n) (hr:BLs w ro n r) (hq:BLs w qo n q) (hn:n≤1000) (hK:K≤60000) :
  Calls Tryz.prog 26 #[.slice so n sc,.slice ro n rc,.slice qo n qc,.int .i64 (lm:Int)] w fun e w' => Kept w w'∧e = .returned (.bool (wideL n lm M r q)):=by
 have HM:=hid (And.intro h (And.intro hr hq))
 clear h hr hq
 go_enter Tryz.func26,Tryz.ntmps26
 go_wp2_with fail
 go_loopw [9] (fun v9 wr => ∃ i:Nat,i≤n∧v9 = .int .i64 (i:Int)∧Hid (Kept w wr∧∀ a,a < i→anyB (fun k => r a && (q k && wideZ lm (M a k))) n = false)) (fun v9 _ => n - (intOf v9).toNat)
 case atStart => exact ⟨0,Nat.zero_le _,rfl,Kept.refl _,fun a h => absurd h (Nat.not_lt_zero _)⟩
 case round =>
  obtain ⟨i,hi,rfl,H⟩:=hrel
  generalize wr = w1 at H ⊢
  by_cases hit:i < n
  ·
   have hii:(i:Int) < (n:Int):=by omega
   have hi0:(0:Int)≤(i:Int):=by omega
   obtain ⟨mb,mf,ra,rcp,rfl,hmb,hmc,hrd⟩:=HM.out.1.at hit
   obtain ⟨b1,o1,rfl,hb1,hr1⟩:=HM.out.2.1 (by omega)
   obtain ⟨b2,o2,rfl,hb2,hq1⟩:=HM.out.2.2 (by omega)
   have HC:=hid (And.intro hmc (And.intro hrd (And.intro (fun V (K:Kept w V) => (Below.cell K (p:=⟨b1,o1 + i,none⟩) hb1).trans (hr1 i hit)) (fun k (hk:k < n) V (K:Kept w V) => (Below.cell K (p:=⟨b2,o2 + k,none⟩) hb2).trans (hq1 k hk)))))
   clear hmc hrd hr1 hq1
   --%A
   go_wp2_with fail
   go_loopw [10] (fun v10 wr => ∃ k:Nat,k≤n∧v10 = .int .i64 (k:Int)∧Hid (Kept w wr∧∀ c,c < k→(r i && (q c && wideZ lm (M i c))) = false)) (fun v10 _ => n - (intOf v10).toNat)
   case atStart => exact ⟨0,Nat.zero_le _,rfl,H.out.1,fun a h => absurd h (Nat.not_lt_zero _)⟩
   case round =>
    obtain ⟨k,hk,rfl,J⟩:=hrel
    generalize wr = w2 at J ⊢
    by_cases hkt:k < n
    ·
     have hkk:(k:Int) < (n:Int):=by omega
     have hk0:(0:Int)≤(k:Int):=by omega
     have x0:=HC.out.2.2.1 w2 J.out.1
     have x1:=HC.out.2.2.2 k hkt w2 J.out.1
     have x2:=HC.out.1 w2 J.out.1
     obtain ⟨b3,o3,s,zo,zk9,zc,rfl,hb3,_,hcb,hdx,hzk⟩:=HC.out.2.1.at hkt
     have y:=hcb w2 (KX.of J.out.1)
     have y0:=y.1
     have y1:=y.2
     have HD:=hid (hdx.1.kept J.out.1)
     clear hcb hdx y
     obtain ⟨ri,hri⟩:∃ b,b = r i:=⟨_,rfl⟩
     obtain ⟨qk,hqk⟩:∃ b,b = q k:=⟨_,rfl⟩
     rw [← hri] at x0
     rw [← hqk] at x1
     have HRi:=hid (And.intro hri hqk)
     clear hri hqk
     have hstep:(r i && (q k && wideZ lm (M i k))) = false→∀ c,c < k + 1→(r i && (q c && wideZ lm (M i c))) = false:=fun h c hc => by
      by_cases e:c = k
      ·
       subst e; exact h
      ·
       exact J.out.2 c (by omega)
     have HSt:=hid hstep
     clear hstep
     cases ri with
     | false =>
      --%B
      go_wp2_with fail
      go_roundw
      case rel => exact ⟨k + 1,by omega,by go_num,J.out.1,HSt.out (by rw [← HRi.out.1]; rfl)⟩
      case measure => show n - ((k:Int) + 1).toNat < n - (k:Int).toNat; omega
     | true =>
     cases qk with
     | false =>
      --%C
      go_wp2_with fail
      go_roundw
      case rel => exact ⟨k + 1,by omega,by go_num,J.out.1,HSt.out (by rw [← HRi.out.1,← HRi.out.2]; rfl)⟩
      case measure => show n - ((k:Int) + 1).toNat < n - (k:Int).toNat; omega
     | true =>
     --%D
     go_wp2_with fail
     refine (D.Length_any s zo zk9 zc w2 (by omega)).mono ?_
     rintro e w3 ⟨hk3,rfl⟩
     have H3:=hid (J.out.1.trans hk3)
     have hw:=nis_wide (lm:=lm) HD.out
     clear hk3 x0 x1 x2 y0 y1
     by_cases hwd:lm < (zk9 + 1) / 2
     ·
      have hwd':(lm:Int) < (((zk9 + 1) / 2:Nat):Int):=by omega
      have HR:=hid (show wideL n lm M r q = true from anyB_ex.2 ⟨i,hit,anyB_ex.2 ⟨k,hkt,by rw [← HRi.out.1,← HRi.out.2,hw,decide_eq_true hwd]; rfl⟩⟩)
      clear hw
      --%E
      go_wp2_with fail
      go_ret
      exact ⟨H3.out,by rw [HR.out]; rfl⟩
     ·
      have hwd':¬ (lm:Int) < (((zk9 + 1) / 2:Nat):Int):=by omega
      have HR:=hid (HSt.out (by rw [hw,decide_eq_false hwd]; simp))
      clear hw
      --%F
      go_wp2_with fail
      go_roundw
      case rel => exact ⟨k + 1,by omega,by go_num,H3.out,HR.out⟩
      case measure => show n - ((k:Int) + 1).toNat < n - (k:Int).toNat; omega
    ·
     have hkk:¬ (k:Int) < (n:Int):=by omega
     have HR:=hid (show anyB (fun c => r i && (q c && wideZ lm (M i c))) n = false from by
      cases e:anyB (fun c => r i && (q c && wideZ lm (M i c))) n with
      | false => rfl
      | true =>
       obtain ⟨c,hc,h⟩:=anyB_ex.1 e
       rw [J.out.2 c (by omega)] at h
       cases h)
     --%G
     go_wp2_with fail
     go_roundw
     case rel => exact ⟨i + 1,by omega,by go_num,J.out.1,fun a ha => by
       by_cases e:a = i
       ·
        subst e; exact HR.out
       ·
        exact H.out.2 a (by omega)⟩
     case measure => show n - ((i:Int) + 1).toNat < n - (i:Int).toNat; omega
  ·
   have hii:¬ (i:Int) < (n:Int):=by omega
   have HR:=hid (show wideL n lm M r q = false from by
    cases e:wideL n lm M r q with
    | false => rfl
    | true =>
     obtain ⟨c,hc,h⟩:=anyB_ex.1 e
     rw [H.out.2 c (by omega)] at h
     cases h)
   --%H
   go_wp2_with fail
   go_ret
   exact ⟨H.out.1,by rw [HR.out]; rfl⟩
end Bp
end Go.Proofs.YtdcgdpbgnijnpaaGreat

namespace Go.Proofs.YtdcgdpbgnijnpaaGreat
open Go.RowKit
open V (RowL RowL.alloc RowL.lt RowL.cell RowL.fz RowL.kept RowL.block RowL.set RowL.far)
open Sp (hid own_kept own_keptK own_row own_shape info_parts brow brow_len brow_at brow_set info_bools und_boolss make_bools MatU MatU.kept MatU.snoc MatU.nil cell_new)
namespace Bp
def plF (M:Nat→Nat→Int) (r q:Nat→Bool) (i k:Nat):Bool:=r i && (q k && decide (M i k ≠ 0))
set_option maxRecDepth 100000 in
set_option maxHeartbeats 20000000 in
theorem places14_any (so ro qo:Option Addr) (n sc rc qc K:Nat) (M:Nat→Nat→Int) (r q:Nat→Bool) (w:World) (h:MN K n M w (.slice so n sc) n) (hr:BLs w ro n r) (hq:BLs w qo n q) (hn:n≤1000) (hK:K≤60000) :
  Calls Tryz.prog 28 #[.slice so n sc,.slice ro n rc,.slice qo n qc] w fun e w' => Kept w w'∧∃ v,e = .returned v∧MatU w.heap.size w' v n n (plF M r q):=by
 have HM:=hid (And.intro h (And.intro hr hq))
 clear h hr hq
 obtain ⟨i0,hi0,hz0,hz1,hz2⟩:=info_parts info_bools
 go_enter Tryz.func28,Tryz.ntmps28
 go_wp2_with fail
 go_loopw [7,8] (fun v7 v8 wr => ∃ i:Nat,i≤n∧v8 = .int .i64 (i:Int)∧Hid (Kept w wr∧MatU w.heap.size wr v7 n i (plF M r q))) (fun _ v8 _ => n - (intOf v8).toNat)
 case atStart => exact ⟨0,Nat.zero_le _,rfl,Kept.refl _,MatU.nil _ _ _ _⟩
 case round =>
  obtain ⟨i,hi,rfl,H⟩:=hrel
  generalize wr = w1 at H ⊢
  by_cases hit:i < n
  ·
   have hii:(i:Int) < (n:Int):=by omega
   have hi0':(0:Int)≤(i:Int):=by omega
   obtain ⟨mb,mf,ra,rcp,rfl,hmb,hmc,hrd⟩:=HM.out.1.at hit
   obtain ⟨b1,o1,rfl,hb1,hr1⟩:=HM.out.2.1 (by omega)
   obtain ⟨b2,o2,rfl,hb2,hq1⟩:=HM.out.2.2 (by omega)
   have HC:=hid (And.intro hmc (And.intro hrd (And.intro (fun V (K:Kept w V) => (Below.cell K (p:=⟨b1,o1 + i,none⟩) hb1).trans (hr1 i hit)) (fun k (hk:k < n) V (K:Kept w V) => (Below.cell K (p:=⟨b2,o2 + k,none⟩) hb2).trans (hq1 k hk)))))
   have hm:=make_bools (n:=n) (by omega) w1
   have rA:=RowL.alloc 4 w1 (brow n fun _ => false)
   have kA:=(Kept.refl w1).alloc (.cells (brow n fun _ => false).toArray 4)
   obtain ⟨g,hg⟩:∃ p,p = w1.heap.size:=⟨_,rfl⟩
   rw [← hg] at hm rA
   have HG:=hid (show w1.heap.size≤g by rw [hg]; exact Nat.le_refl _)
   generalize w1.alloc (.cells (brow n fun _ => false).toArray 4) = W at hm rA kA
   have HW:=hid (And.intro kA (show RowL 4 W g (brow n fun k => decide (k < 0) && plF M r q i k) from by
    have e:(brow n fun k => decide (k < 0) && plF M r q i k) = brow n fun _ => false:=by first | (congr 1; funext k; simp) | congr 1 | simp
    rw [e]; exact rA))
   clear hmc hrd hr1 hq1 hg rA kA
   --%A
   go_wp2_with fail
   clear hm
   go_loopw [10] (fun v10 wr => ∃ k:Nat,k≤n∧v10 = .int .i64 (k:Int)∧Hid (Kept w1 wr∧RowL 4 wr g (brow n fun c => decide (c < k) && plF M r q i c))) (fun v10 _ => n - (intOf v10).toNat)
   case atStart => exact ⟨0,Nat.zero_le _,rfl,HW.out⟩
   case round =>
    clear HW
    obtain ⟨k,hk,rfl,J⟩:=hrel
    generalize wr = w2 at J ⊢
    by_cases hkt:k < n
    ·
     have hkk:(k:Int) < (n:Int):=by omega
     have hk0:(0:Int)≤(k:Int):=by omega
     have KW:=H.out.1.trans J.out.1
     have x0:=HC.out.2.2.1 w2 KW
     have x1:=HC.out.2.2.2 k hkt w2 KW
     have x2:=HC.out.1 w2 KW
     obtain ⟨b3,o3,s,zo,zk9,zc,rfl,hb3,_,hcb,hdx,hzk⟩:=HC.out.2.1.at hkt
     have y:=hcb w2 (KX.of KW)
     have y0:=y.1
     have y1:=y.2
     have HD:=hid (hdx.1.kept KW)
     have z0:=J.out.2.cell k _ (brow_at hkt)
     have f0:=J.out.2.fz k
     obtain ⟨ri,hri⟩:∃ b,b = r i:=⟨_,rfl⟩
     obtain ⟨qk,hqk⟩:∃ b,b = q k:=⟨_,rfl⟩
     rw [← hri] at x0
     rw [← hqk] at x1
     have HRi:=hid (And.intro hri hqk)
     have hstep:∀ (w3:World) (b:Bool),Kept w2 w3→b = plF M r q i k→Kept w1 (w3.setCell ⟨g,k,none⟩ (.bool b))∧RowL 4 (w3.setCell ⟨g,k,none⟩ (.bool b)) g (brow n fun c => decide (c < k + 1) && plF M r q i c):=fun w3 b K3 hb => by
      refine ⟨(J.out.1.trans K3).setCell (p:=⟨g,k,none⟩) HG.out _,?_⟩
      have rr:=(J.out.2.kept K3).set k (.bool b)
      rw [brow_set] at rr
      have e:(brow n fun j => if j = k then b else decide (j < k) && plF M r q i j) = brow n fun c => decide (c < k + 1) && plF M r q i c:=by
       congr 1; funext j
       by_cases e:j = k
       ·
        subst e; rw [if_pos rfl,hb]; simp
       ·
        rw [if_neg e]
        have:(j < k) = (j < k + 1):=propext ⟨fun h => by omega,fun h => by omega⟩
        simp only [this]
      rw [e] at rr
      exact rr
     have HSt:=hid hstep
     clear hcb hdx y KW hri hqk hstep
     cases ri with
     | false =>
      have HN:=hid (HSt.out w2 false (Kept.refl _) (by unfold plF; rw [← HRi.out.1]; rfl))
      --%B
      go_wp2_with fail
      go_roundw
      case rel => exact ⟨k + 1,by omega,by go_num,HN.out⟩
      case measure => show n - ((k:Int) + 1).toNat < n - (k:Int).toNat; omega
     | true =>
     cases qk with
     | false =>
      have HN:=hid (HSt.out w2 false (Kept.refl _) (by unfold plF; rw [← HRi.out.1,← HRi.out.2]; rfl))
      --%C
      go_wp2_with fail
      go_roundw
      case rel => exact ⟨k + 1,by omega,by go_num,HN.out⟩
      case measure => show n - ((k:Int) + 1).toNat < n - (k:Int).toNat; omega
     | true =>
     --%D
     go_wp2_with fail
     refine (D.Sign_any s zo zk9 zc (M i k) w2 HD.out (by omega)).mono ?_
     rintro e w3 ⟨rfl,hk3⟩
     have z0:=(J.out.2.kept hk3).cell k _ (brow_at hkt)
     have f0:=(J.out.2.kept hk3).fz k
     obtain ⟨sg,hsg⟩:∃ x,x = isgn (M i k) 0:=⟨_,rfl⟩
     rw [← hsg]
     have HN:=hid (HSt.out w3 (decide (M i k ≠ 0)) hk3 (by unfold plF; rw [← HRi.out.1,← HRi.out.2]; rfl))
     clear hk3 x0 x1 x2 y0 y1
     by_cases hz:M i k = 0
     ·
      have e1:sg = 0:=by rw [hsg,hz]; decide
      have e2:(sg == 0) = true:=by simp [e1]
      have e3:(sg != 0) = false:=by simp [bne,e2]
      have HN:=hid (by have:=HN.out; rw [show decide (M i k ≠ 0) = false by simp [hz]] at this; exact this)
      clear hsg
      --%E
      go_wp2_with fail
      go_roundw
      case rel => exact ⟨k + 1,by omega,by go_num,HN.out⟩
      case measure => show n - ((k:Int) + 1).toNat < n - (k:Int).toNat; omega
     ·
      have e1:sg ≠ 0:=by
       rw [hsg]
       unfold isgn
       split
       ·
        decide
       ·
        first | decide | (rw [if_neg hz]; decide)
      have e2:(sg == 0) = false:=by simpa using e1
      have e3:(sg != 0) = true:=by simp [bne,e2]
      have HN:=hid (by have:=HN.out; rw [show decide (M i k ≠ 0) = true by simp [hz]] at this; exact this)
      clear hsg
      --%F
      go_wp2_with fail
      go_roundw
      case rel => exact ⟨k + 1,by omega,by go_num,HN.out⟩
      case measure => show n - ((k:Int) + 1).toNat < n - (k:Int).toNat; omega
    ·
     have hkk:¬ (k:Int) < (n:Int):=by omega
     obtain rfl:k = n:=by omega
     have HR:=hid (And.intro J.out.1 (show RowL 4 w2 g (brow k (plF M r q i)) from by
      have h1:=J.out.2
      have e:(brow k fun c => decide (c < k) && plF M r q i c) = brow k (plF M r q i):=by
       unfold brow
       refine List.map_congr_left fun c hc => ?_
       show Value.bool (decide (c < k) && plF M r q i c) = Value.bool (plF M r q i c)
       rw [decide_eq_true (List.mem_range.1 hc)]
       rfl
      rw [e] at h1
      exact h1))
     obtain ⟨gs,hgl,hown,hrows⟩:=H.out.2.kept HR.out.1
     have HW:=hid (And.intro hgl (And.intro hown hrows))
     have hsz:w.heap.size≤w2.heap.size:=(H.out.1.trans HR.out.1).size
     clear hgl hown hrows
     --%G
     go_wp2_with (at_builtin; refine wpList_append_lies _ rfl (.tmp 50) (.tmp 52) 80 rfl w.heap.size 74 i0 (.slice none 0 0) 1 24 und_boolss hi0 hz0 hz1 hz2 rfl (by decide) u7 i (gs.map fun g => Value.slice (some ⟨g,0,none⟩) k k) rfl (by exact World.ownsRow.alloc HW.out.2.1 _) ⟨w2.heap.size,0,none⟩ 1 1 [.slice (some ⟨g,0,none⟩) k k] rfl rfl (cell_new w2 _ _) (fun u hu => by simp at hu; rcases hu with rfl; rfl) (by omega) (by unfold maxLen; omega) (by omega) (by simp; omega) _ rfl ?_)
     intro G cap w5 hO hgr _ _
     have kA:=(Kept.refl w2).alloc (.cells #[.slice (some ⟨g,0,none⟩) k k] 74)
     have hOw:=World.ownsRow.alloc HW.out.2.1 (.cells #[.slice (some ⟨g,0,none⟩) k k] 74)
     generalize w2.alloc (.cells #[.slice (some ⟨g,0,none⟩) k k] 74) = W5 at kA hgr hOw
     have KW:Kept w w5:=Below.grown ((H.out.1.trans HR.out.1).trans kA) hgr ((H.out.1.trans HR.out.1).trans kA).size (fun c hc => (World.ownsRow.lt hOw c hc).1)
     have HB:=hid (fun (p:Nat) (xs:List Value) (hp:RowL 4 w2 p xs) => (hp.kept kA).block (hgr.block p (hp.kept kA).lt (fun e => own_row hOw (hp.kept kA) (by decide) e.symm)))
     have HQ:=hid (And.intro KW (MatU.snoc (w:=w2) (w':=w5) (g:=g) (m:=plF M r q) ⟨gs,HW.out.1,hO,HW.out.2.2⟩ HB.out HR.out.2 (show w.heap.size≤g by have h1:=HG.out; have h2:=H.out.1.size; omega) rfl))
     clear kA hOw hgr hO KW
     --%H
     go_wp2_with fail
     go_roundw
     case rel => exact ⟨i + 1,by omega,by go_num,HQ.out⟩
     case measure => show k - ((i:Int) + 1).toNat < k - (i:Int).toNat; omega
  ·
   have hii:¬ (i:Int) < (n:Int):=by omega
   obtain rfl:i = n:=by omega
   --%I
   go_wp2_with fail
   go_ret
   exact ⟨H.out.1,_,rfl,H.out.2⟩
end Bp
end Go.Proofs.YtdcgdpbgnijnpaaGreat

namespace Go.Proofs.YtdcgdpbgnijnpaaGreat
open Go.RowKit
open V (RowL RowL.alloc RowL.lt RowL.cell RowL.fz RowL.kept RowL.block RowL.set RowL.far)
open Sp (hid vrow vrow_at own_kept own_keptK own_row own_shape info_parts wpList_src own_none)
open Sy
open Bm (MxR mxr_at mxr_kept cel_at mOk)
open X (zk zr zl zd region_z anyZ_ready AllZ AllZ.cons AllZ.nil)
namespace Bp
def kC (L:List LE) (i k j:Nat):List (Int × Bool × List Nat):=if j < i then (L.getD j l0).cs.map keyE else if j = i then ((L.getD i l0).cs.take k).map keyE else []
theorem kC_row {L:List LE} {i k:Nat} (hk:(L.getD i l0).cs.length≤k) (j:Nat):kC L i k j = kC L (i + 1) 0 j:=by
 unfold kC
 by_cases h1:j < i
 ·
  rw [if_pos h1,if_pos (by omega)]
 ·
  by_cases h2:j = i
  ·
   subst h2
   rw [if_neg h1,if_pos rfl,if_pos (by omega),List.take_of_length_le hk]
  ·
   rw [if_neg h1,if_neg h2,if_neg (by omega)]
   split <;> rfl
theorem kC_step {L:List LE} {i k:Nat} (hk:k < (L.getD i l0).cs.length) (j:Nat):(if j = i then kC L i k i ++ [keyE (L.getD i l0).cs[k]] else kC L i k j) = kC L i (k + 1) j:=by
 unfold kC
 by_cases h2:j = i
 ·
  subst h2
  rw [if_pos rfl,if_neg (Nat.lt_irrefl _),if_pos rfl,if_neg (Nat.lt_irrefl _),if_pos rfl,List.take_succ_eq_append_getElem hk,List.map_append]
  rfl
 ·
  rw [if_neg h2,if_neg h2,if_neg h2]
structure CpS (w wr:World) (g n:Nat) (L:List LE) (i k:Nat) (hs:Nat→Value) (C:Nat→List CE):Prop where
 kept:Kept w wr
 grid:GrC w.heap.size wr g n hs C
 keys:∀ j,j < n→(C j).map keyE = kC L i k j
 own:∀ j,j < n→∀ x ∈ C j,New w.heap.size wr x.val.v x.val.lim
theorem CpS.later {w wr w':World} {g n i k:Nat} {L:List LE} {hs:Nat→Value} {C:Nat→List CE} (h:CpS w wr g n L i k hs C) (K:Kept wr w'):CpS w w' g n L i k hs C :=
 ⟨h.kept.trans K,h.grid.kept K,h.keys,fun j hj x hx => (h.own j hj x hx).kept K⟩
theorem CpS.push {w W w5:World} {g n i k G cap:Nat} {L:List LE} {hs:Nat→Value} {C:Nat→List CE} {x:CE} (h:CpS w W g n L i k hs C) (hi:i < n) (hk:k < (L.getD i l0).cs.length) (hx:keyE x = keyE (L.getD i l0).cs[k]) (hxn:New w.heap.size W x.val.v x.val.lim)
  (hO:w5.ownsRow w.heap.size 39 3 (.slice (some ⟨G,0,none⟩) ((C i).length + 1) cap) ((C i).length + 1) ((C i).flatMap CE.cells ++ x.cells)) (hgr:W.grownBy w5 (hs i).ownBlock) (hG:(hs i).ownBlock = some G ∨ G = W.heap.size) :
  CpS w (w5.setCell ⟨g,i,none⟩ (.slice (some ⟨G,0,none⟩) ((C i).length + 1) cap)) g n L i (k + 1) (fun j => if j = i then .slice (some ⟨G,0,none⟩) ((C i).length + 1) cap else hs j) (fun j => if j = i then C i ++ [x] else C j):=by
 have hown:=h.grid.own i hi
 have hne:(hs i).ownBlock ≠ some g:=own_row hown h.grid.row (by decide)
 have rG:RowL 34 w5 g (vrow n hs):=h.grid.row.block (hgr.block g h.grid.row.lt (fun e => hne e.symm))
 have k1:KX (fun k => some k = (hs i).ownBlock) W w5:=KX.grown hgr
 have f1:Free 40 (fun k => some k = (hs i).ownBlock) W:=fun q hq cur fr e => by
  obtain ⟨c,f,h1⟩:=Lib.ownsRow_kind hown q hq.symm
  rw [h1] at e
  injection e with e
  injection e with _ e2
  exact absurd e2 (by decide)
 have k2:KX (fun k => k = g) w5 (w5.setCell ⟨g,i,none⟩ (.slice (some ⟨G,0,none⟩) ((C i).length + 1) cap)):=(KX.refl w5).setCell (T:=fun k => k = g) (p:=⟨g,i,none⟩) (.inl rfl) _
 have f2:Free 40 (fun k => k = g) w5:=rowl_free rG (by decide)
 have hn:∀ y:CE,New w.heap.size W y.val.v y.val.lim→New w.heap.size (w5.setCell ⟨g,i,none⟩ (.slice (some ⟨G,0,none⟩) ((C i).length + 1) cap)) y.val.v y.val.lim:=fun y hy => New_kx (New_kx hy k1 f1) k2 f2
 refine ⟨KX.kept (KX.kept h.kept k1 fun q hq => (World.ownsRow.lt hown q hq.symm).1) k2 fun q hq => by rw [hq]; exact h.grid.base,h.grid.push hi (Kept.refl W) hO hgr hG,fun j hj => ?_,fun j hj y hy => ?_⟩
 ·
  rw [← kC_step hk]
  by_cases e:j = i
  ·
   subst e
   rw [if_pos rfl,if_pos rfl,List.map_append,h.keys j hj,List.map_cons,List.map_nil,hx]
  ·
   rw [if_neg e,if_neg e]
   exact h.keys j hj
 ·
  by_cases e:j = i
  ·
   subst e
   simp only [if_pos] at hy
   rcases List.mem_append.1 hy with hy | hy
   ·
    exact hn y (h.own j hj y hy)
   ·
    obtain rfl:=List.mem_singleton.1 hy
    exact hn _ hxn
  ·
   simp only [if_neg e] at hy
   exact hn y (h.own j hj y hy)
theorem sl_src {W:World} {zo:Option Addr} {zk zc:Nat} {zl:List Nat} (h:Sl W (.slice zo zk zc) zl):0 < zk→∃ ad,zo = some ad∧∀ j u,(us zl)[j]? = some u→W.cell? (ad.add j) = some u:=by
 intro h0
 obtain ⟨hb,ao,cap,e,hx⟩:=h
 cases e
 obtain ⟨_,b,off,rfl,hlt,hc⟩:=hx h0
 exact ⟨_,rfl,Sl.news hc⟩
set_option maxRecDepth 100000 in
set_option maxHeartbeats 40000000 in
theorem copied_any (ao:Option Addr) (n cap:Nat) (L:List LE) (w:World) (h:MxR w ao L) (hl:n = L.length) (hn:n≤61) (hs:∀ r ∈ L,r.cs.length≤60∧∀ c ∈ r.cs,c.val.lim.length≤600) :
  Calls Tryz.prog 6 #[.slice ao n cap] w fun e w' => ∃ g hs C,e = .returned (.slice (some ⟨g,0,none⟩) n n)∧CpS w w' g n L n 0 hs C:=by
 have HL:=hid (And.intro h (And.intro hl hs))
 clear h hl hs
 obtain ⟨i1,hj,hy0,hy1,hy2⟩:=info_parts info_cell
 obtain ⟨i2,hu,hu0,hu1,hu2⟩:=info_parts Tryz.info40
 have hm1:=hid (fun u => make_mat (n:=n) (by omega) u)
 have q1:=hm1.out w
 have k1:=(Kept.refl w).alloc (.cells (vrow n fun _ => .slice none 0 0).toArray 34)
 have r1:=GrC.new (n:=n) w (Nat.le_refl _)
 obtain ⟨g,hg⟩:∃ p,p = w.heap.size:=⟨_,rfl⟩
 rw [← hg] at q1
 have r1:GrC w.heap.size (w.alloc (.cells (vrow n fun _ => .slice none 0 0).toArray 34)) g n (fun _ => .slice none 0 0) (fun _ => []):=by rw [hg]; exact r1
 generalize w.alloc (.cells (vrow n fun _ => .slice none 0 0).toArray 34) = w1 at q1 r1 k1
 have HQ:=hid (show CpS w w1 g n L 0 0 (fun _ => .slice none 0 0) (fun _ => []) from ⟨k1,r1,fun j _ => by unfold kC; rw [if_neg (Nat.not_lt_zero _)]; split <;> rfl,fun j _ x hx => by cases hx⟩)
 clear r1 k1 hg hm1
 go_enter Tryz.func6,Tryz.ntmps6
 --%A
 go_wp2_with fail
 clear q1
 go_loopw [13] (fun v13 wr => ∃ i:Nat,i≤n∧v13 = .int .i64 (i:Int)∧Hid (∃ hs C,CpS w wr g n L i 0 hs C)) (fun v13 _ => n - (intOf v13).toNat)
 case atStart => exact ⟨0,Nat.zero_le _,rfl,_,_,HQ.out⟩
 case round =>
  clear HQ
  obtain ⟨i,hi,rfl,H⟩:=hrel
  generalize wr = w5 at H ⊢
  by_cases hit:i < n
  ·
   have hii:(i:Int) < (n:Int):=by omega
   have hi0:(0:Int)≤(i:Int):=by omega
   have hiL:i < L.length:=by have:=HL.out.2.1; omega
   obtain ⟨b,off,ra,rc,cs,rfl,hrow,hc,hcs⟩:=mxr_at HL.out.1 hiL
   have c1:=hc w5 (by obtain ⟨_,_,hh⟩:=H.out; exact hh.kept)
   have HCs:=hid hcs
   have hcE:(L.getD i l0).cs = cs:=by rw [getD_in hiL,hrow]
   have hcb:cs.length≤60∧∀ c ∈ cs,c.val.lim.length≤600:=by
    have:=HL.out.2.2 L[i] (List.getElem_mem hiL)
    rw [hrow] at this
    exact this
   obtain ⟨rl,hrl⟩:∃ r,r = cs.length:=⟨_,rfl⟩
   rw [← hrl] at c1
   have hrl60:rl≤60:=by rw [hrl]; exact hcb.1
   have HR:=hid (And.intro hrl (And.intro hcE hcb.2))
   clear hc hcs hrl hcE hrow hcb
   --%D
   go_wp2_with fail
   go_loopw [20] (fun v20 wr => ∃ (k:Nat),k≤rl∧v20 = .int .i64 (k:Int)∧Hid (∃ hs C,CpS w wr g n L i k hs C)) (fun v20 _ => rl - (intOf v20).toNat)
   case atStart => exact ⟨0,Nat.zero_le _,rfl,H.out⟩
   case round =>
    clear H c1
    obtain ⟨k,hkl,rfl,K⟩:=hrel
    generalize wr = w6 at K ⊢
    by_cases hkt:k < rl
    ·
     have hkk:(k:Int) < (rl:Int):=by omega
     have hk0:(0:Int)≤(k:Int):=by omega
     have hkL:k < cs.length:=by have:=HR.out.1; omega
     obtain ⟨b2,o2,y,m,zo,zc,zl,rfl,hce,hcb,okb⟩:=cel_at HCs.out hkL
     obtain ⟨hs,C,hCp⟩:=K.out
     have c1:=(hcb w6 hCp.kept).1
     have c2:=(hcb w6 hCp.kept).2.1
     have c3:=(hcb w6 hCp.kept).2.2
     have hzl:zl.length≤600:=by have:=HR.out.2.2 cs[k] (List.getElem_mem hkL); rw [hce] at this; exact this
     obtain ⟨zk9,hzk⟩:∃ l,l = zl.length:=⟨_,rfl⟩
     rw [← hzk] at c3 hzl
     have hsl:Sl w (.slice zo zk9 zc) zl:=by rw [hzk]; exact okb.1
     have HZk:=hid (And.intro hzk (And.intro hsl hce))
     have hsz6:w.heap.size≤w6.heap.size:=hCp.kept.size
     have HCp:=hid hCp
     have rB:=RowL.alloc 39 w6 [.int .i64 y,.bool m,.slice zo zk9 zc]
     have kB:=(Kept.refl w6).alloc (.cells #[.int .i64 y,.bool m,.slice zo zk9 zc] 39)
     clear hcb hCp K hce hzk okb hsl
     --%E
     go_upto_region 8 with fail
     have hsz7:w.heap.size≤(w6.alloc (.cells #[.int .i64 y,.bool m,.slice zo zk9 zc] 39)).heap.size:=Nat.le_trans hsz6 kB.size
     generalize w6.alloc (.cells #[.int .i64 y,.bool m,.slice zo zk9 zc] 39) = w7 at rB kB hsz7 ⊢
     obtain ⟨p7,hp7⟩:∃ p,p = w6.heap.size:=⟨_,rfl⟩
     rw [← hp7] at rB ⊢
     have H7:=hid (And.intro rB (And.intro kB hp7))
     have d2:=(rB.kept ((Kept.refl w7).alloc (.cells #[] 40))).cell 2 _ rfl
     clear rB kB hp7 c1 c2 c3
     have hsrc:=sl_src (HZk.out.2.1.kept ((HCp.out.kept.trans H7.out.2.1).alloc (.cells #[] 40)))
     have hul:(us zl).length = zk9 * 1:=by have:=HZk.out.1; simp [us]; omega
     --%F
     go_wp2_with (at_builtin; refine wpList_src rfl (.tmp 24) (.tmp 27) 35 rfl w.heap.size 40 i2 (.int .u32 0) 1 4 Tryz.underlying35 hu hu0 hu1 hu2 rfl (by decide) w7.heap.size rfl (own_none 40 1 w7 w.heap.size hsz7) zo zk9 zc (us zl) rfl hul hsrc (us_oneCell zl) (by unfold maxLen; omega) (by omega) (by rw [alloc_sz]; omega) ?_)
     intro g5 cap5 w8 hO5 hgr5
     have K78:Kept w7 w8:=X.kept_grown ((Kept.refl w7).alloc (.cells #[] 40)) hgr5 (Nat.le_refl _)
     have hnw:New w.heap.size w8 (.slice (some ⟨g5,0,none⟩) zk9 cap5) zl:=New.of_owns hO5 HZk.out.2.1.bd
     have r8:=H7.out.1.kept K78
     have H8:=hid (And.intro K78 (And.intro hnw r8))
     have d2:=r8.cell 2 _ rfl
     have f2:=r8.fz 2
     clear K78 hnw r8 hO5 hgr5 hsrc hul
     go_upto_region 9 with fail
     --%G
     have kS:KX (fun k => k = p7) w8 (w8.setCell ⟨p7,2,none⟩ (.slice (some ⟨g5,0,none⟩) zk9 cap5)):=(KX.refl w8).setCell (T:=fun k => k = p7) (p:=⟨p7,2,none⟩) (.inl rfl) _
     have hn9:=New_kx H8.out.2.1 kS (rowl_free H8.out.2.2 (by decide))
     have r9:=RowL.set H8.out.2.2 2 (.slice (some ⟨g5,0,none⟩) zk9 cap5)
     have K69:Kept w6 (w8.setCell ⟨p7,2,none⟩ (.slice (some ⟨g5,0,none⟩) zk9 cap5)):=KX.kept (H7.out.2.1.trans H8.out.1) kS (fun k hk => by rw [hk,H7.out.2.2]; exact Nat.le_refl _)
     generalize w8.setCell ⟨p7,2,none⟩ (.slice (some ⟨g5,0,none⟩) zk9 cap5) = w9 at r9 hn9 K69 kS ⊢
     have hne7:(hs i).ownBlock ≠ some p7:=fun e => by have:=(World.ownsRow.lt (HCp.out.grid.own i hit) _ e).2; have:=H7.out.2.2; omega
     obtain ⟨va,vc,hv⟩:=own_shape (HCp.out.grid.own i hit)
     obtain ⟨l,hl⟩:∃ l,l = C i:=⟨_,rfl⟩
     rw [← hl] at hv
     have hll:l.length≤60:=by
      have h1:=congrArg List.length (HCp.out.keys i hit)
      rw [List.length_map,← hl] at h1
      rw [h1]
      unfold kC
      rw [if_neg (Nat.lt_irrefl _),if_pos rfl,List.length_map,List.length_take]
      omega
     have H9:=hid (And.intro (HCp.out.later K69) (And.intro (show RowL 39 w9 p7 [.int .i64 y,.bool m,.slice (some ⟨g5,0,none⟩) zk9 cap5] from r9) (And.intro hn9 (And.intro hne7 (And.intro hv hl)))))
     clear kS hn9 r9 K69 hne7 hv d2 f2 hl H8
     have sS:=hid (fun (V:World) (rb:RowL 39 V p7 [.int .i64 y,.bool m,.slice (some ⟨g5,0,none⟩) zk9 cap5]) (rg:RowL 34 V g (vrow n hs)) => show (fun w':World => w'.cell? ⟨p7,0,none⟩ = some (.int .i64 y)∧w'.cell? ⟨p7,1,none⟩ = some (.bool m)∧w'.cell? ⟨p7,2,none⟩ = some (.slice (some ⟨g5,0,none⟩) zk9 cap5)∧w'.cell? ⟨g,i,none⟩ = some (.slice va l.length vc)) V from ⟨rb.cell 0 _ rfl,rb.cell 1 _ rfl,rb.cell 2 _ rfl,by rw [rg.cell i _ (vrow_at hit),H9.out.2.2.2.2.1]⟩)
     have KT:Kept w9 w9.drew:=(Kept.refl _).drew
     refine region_z 10 (S:=fun w' => w'.cell? ⟨p7,0,none⟩ = some (.int .i64 y)∧w'.cell? ⟨p7,1,none⟩ = some (.bool m)∧w'.cell? ⟨p7,2,none⟩ = some (.slice (some ⟨g5,0,none⟩) zk9 cap5)∧w'.cell? ⟨g,i,none⟩ = some (.slice va l.length vc)) (by kernel_rfl) (sS.out _ (H9.out.2.1.kept KT) (H9.out.1.grid.row.kept KT)) (fun hHeld => ?_)
     generalize w9.drew = Wd at KT hHeld ⊢
     refine zk 0 hHeld ?_
     refine zk 1 hHeld ?_
     refine zk 2 hHeld ?_
     refine zk 3 hHeld ?_
     refine zk 4 hHeld ?_
     refine zk 5 hHeld ?_
     refine zk 6 hHeld ?_
     --%H
     refine zr 7 fun K hK => ?_
     go_simp
     have rT:=RowL.alloc 39 Wd [.int .i64 y,.bool m,.slice (some ⟨g5,0,none⟩) zk9 cap5]
     have kA:=KT.alloc (.cells #[.int .i64 y,.bool m,.slice (some ⟨g5,0,none⟩) zk9 cap5] 39)
     refine hK.out _ _ (sS.out _ (H9.out.2.1.kept kA) (H9.out.1.grid.row.kept kA)) (fun hHeld => ?_)
     clear hK K
     obtain ⟨t,ht⟩:∃ p,p = Wd.heap.size:=⟨_,rfl⟩
     rw [← ht] at rT ⊢
     generalize Wd.alloc (.cells #[.int .i64 y,.bool m,.slice (some ⟨g5,0,none⟩) zk9 cap5] 39) = Wa at rT kA hHeld ⊢
     have HC9:=hid (H9.out.1.later kA)
     have hOx:Wa.ownsRow w.heap.size 39 3 (.slice va l.length vc) l.length (l.flatMap CE.cells):=by have:=HC9.out.grid.own i hit; rw [H9.out.2.2.2.2.1,← H9.out.2.2.2.2.2] at this; exact this
     --%I
     refine zr 8 fun K hK => ?_
     refine wp_append_lies _ (.tmp 36) (.tmp 38) 34 rfl w.heap.size 39 i1 (.agg #[.int .i64 0,.bool false,.slice none 0 0]) 3 40 und_cells hj hy0 hy1 hy2 rfl (by decide) (.slice va l.length vc) l.length (l.flatMap CE.cells) rfl hOx ⟨t,0,none⟩ 1 1 [.int .i64 y,.bool m,.slice (some ⟨g5,0,none⟩) zk9 cap5] rfl rfl (row_news rT) (by simp [Value.oneCell']) (by omega) (by unfold maxLen; omega) (by omega) HC9.out.kept.size _ rfl ?_
     intro G cap6 wb hO hgr hG _
     have hgr':Wa.grownBy wb (hs i).ownBlock:=by rw [H9.out.2.2.2.2.1]; exact hgr
     have hP:=HC9.out.push (x:=⟨y,⟨m,some ⟨g5,0,none⟩,cap5,zl⟩⟩) (G:=G) (cap:=cap6) hit (by rw [HR.out.2.1]; exact hkL) (by simp only [HR.out.2.1]; rw [HZk.out.2.2]; rfl) (by show New _ _ (.slice _ zl.length _) zl; rw [← HZk.out.1]; exact H9.out.2.2.1.kept kA) (by rw [← H9.out.2.2.2.2.2]; show wb.ownsRow w.heap.size 39 3 _ _ (_ ++ [.int .i64 y,.bool m,.slice (some ⟨g5,0,none⟩) zl.length cap5]); rw [← HZk.out.1]; exact hO) hgr' (by rw [H9.out.2.2.2.2.1]; exact hG)
     rw [← H9.out.2.2.2.2.2] at hP
     have rG:=HC9.out.grid.row.block (hgr'.block g HC9.out.grid.row.lt (fun e => own_row (HC9.out.grid.own i hit) HC9.out.grid.row (by decide) e.symm))
     have rB:RowL 39 wb p7 [.int .i64 y,.bool m,.slice (some ⟨g5,0,none⟩) zk9 cap5]:=(H9.out.2.1.kept kA).block (hgr'.block p7 (H9.out.2.1.kept kA).lt (fun e => H9.out.2.2.2.1 e.symm))
     have HP:=hid hP
     refine hK.out _ _ (sS.out _ rB rG) (fun hHeld => ?_)
     have hfz:=rG.fz i
     clear hK K hP hO hgr hgr' hG rB rG rT kA KT ht hOx
     --%J
     refine zr 9 fun K hK => ?_
     go_simp
     refine hK.out _ _ hHeld (fun hHeld => ?_)
     clear hK K
     refine X.zl fun K hK => ?_
     obtain ⟨_,_,_,hq4⟩:=hHeld
     go_simp
     refine hK.out _ _ ?_
     clear hK K
     refine zd ?_
     clear hq4 hfz
     --%K
     go_wp2_with fail
     go_roundw
     case rel => exact ⟨k + 1,by omega,by go_num,_,_,HP.out⟩
     case measure => show rl - ((k:Int) + 1).toNat < rl - (k:Int).toNat; omega
    ·
     have hkk:¬ (k:Int) < (rl:Int):=by omega
     have HE:=hid (fun c => kC_row (L:=L) (i:=i) (k:=k) (by rw [HR.out.2.1,← HR.out.1]; omega) c)
     --%L
     go_wp2_with fail
     go_roundw
     case rel => exact ⟨i + 1,by omega,by go_num,by obtain ⟨hs,C,hh⟩:=K.out; exact ⟨hs,C,hh.kept,hh.grid,fun j hj => by rw [hh.keys j hj,HE.out],hh.own⟩⟩
     case measure => show n - ((i:Int) + 1).toNat < n - (i:Int).toNat; omega
  ·
   have hii:¬ (i:Int) < (n:Int):=by omega
   obtain rfl:i = n:=by omega
   --%M
   go_wp2_with fail
   go_ret
   obtain ⟨hs,C,hh⟩:=H.out
   exact ⟨g,rfl,hs,C,hh⟩
end Bp
end Go.Proofs.YtdcgdpbgnijnpaaGreat
