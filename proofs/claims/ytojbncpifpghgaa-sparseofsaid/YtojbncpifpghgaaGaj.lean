/- Divide of shuntref01: its plain mathematics; an append of nothing. Divide of shuntref01: digit by digit from the top. Common of shuntref01: the greatest common divisor, by Euclid. Divide and Common of shuntref01, told as whole numbers. -/
import Derived.Test.YtojbncpifpghgaaGai
import Derived.Laws.OwnMore
namespace Go.Proofs.Ytojbncpifpghgaa.D
open Go.RowKit
theorem row_zeros (w:World) (n:Nat):(w.alloc (.cells (madeCells #[.int .i64 0] n) 3)).rowIs w.heap.size 3 n (fun j => .int .i64 (((List.replicate n 0).getD j 0:Nat):Int)) :=
 (D.row_made w n).congr (fun j _ => by
  rw [List.getD_eq_getElem?_getD,List.getD_eq_getElem?_getD,List.getElem?_replicate]
  split <;> simp)
end Go.Proofs.Ytojbncpifpghgaa.D

namespace Go.Proofs.Ytojbncpifpghgaa.D
open Go.RowKit
def DivRes (B:Nat) (w':World) (e:Ending) (m n:Bool) (a b:List Nat):Prop :=
 ∃ s aq kq cq q t ar kr cr r,e = .returned (.tuple #[.agg #[.bool s,.slice aq kq cq],.agg #[.bool t,.slice ar kr cr]])∧NewE B w' (.slice aq kq cq) q∧NewE B w' (.slice ar kr cr) r∧D.Right s q∧D.Right t r∧D.val a = D.val q * D.val b + D.val r∧D.val r < D.val b∧int s q = int (m != n) q∧int t r = int m r
theorem Sl.shape {w:World} {v:Value} {l:List Nat} (h:Sl w v l):∃ ao cap,v = .slice ao l.length cap:=by
 obtain ⟨_,ao,cap,rfl,_⟩:=h
 exact ⟨ao,cap,rfl⟩
end Go.Proofs.Ytojbncpifpghgaa.D

namespace Go.Proofs.Ytojbncpifpghgaa.D
open Go.RowKit
def Off (B C:Nat) (w:World) (v:Value) (l:List Nat):Prop:=Sl w v l∧(0 < l.length→∃ b off n cap,v = .slice (some ⟨b,off,none⟩) n cap∧(b < B ∨ C≤b))
theorem Off.kept {B C:Nat} {w w':World} {v:Value} {l:List Nat} (h:Off B C w v l) (k:Kept w w'):Off B C w' v l:=⟨h.1.kept k,h.2⟩
theorem Off.other {B C:Nat} {w:World} {v:Value} {l:List Nat} (h:Off B C w v l) {p:Addr} (h1:B≤p.block) (h2:p.block < C) (u:Value):Off B C (w.setCell p u) v l:=by
 refine ⟨?_,h.2⟩
 obtain ⟨⟨hb,ao,cap,rfl,hx⟩,h3⟩:=h
 refine ⟨hb,ao,cap,rfl,fun h0 => ?_⟩
 obtain ⟨h4,b,off,rfl,hlt,hc⟩:=hx h0
 refine ⟨h4,b,off,rfl,by simpa using hlt,fun j hj => ?_⟩
 obtain ⟨b',o',n',c',e,hB⟩:=h3 h0
 simp only [Value.slice.injEq,Option.some.injEq,Addr.mk.injEq] at e
 obtain ⟨⟨rfl,_,_⟩,_,_⟩:=e
 rw [World.cell?_setCell_other _ _ _ _ (by intro e; rw [e] at h1 h2; simp at h1 h2; omega)]
 exact hc j hj
theorem NewE.off {B C D':Nat} {w:World} {v:Value} {l:List Nat} (h:NewE D' w v l) (hC:C≤D'):Off B C w v l:=⟨h.1,fun h0 => by
 obtain ⟨b,n,cap,e,hb⟩:=h.2 h0
 exact ⟨b,0,n,cap,e,.inr (by omega)⟩⟩
theorem Sl.off {C:Nat} {w:World} {v:Value} {l:List Nat} (h:Sl w v l):Off w.heap.size C w v l:=⟨h,fun h0 => by
 obtain ⟨_,ao,cap,rfl,hx⟩:=h
 obtain ⟨_,b,off,rfl,hlt,_⟩:=hx h0
 exact ⟨b,off,_,cap,rfl,.inl hlt⟩⟩
def rdv (w:World):Value→Nat
 | .slice (some a) n _ => D.val ((List.range n).map (fun j => match w.cell? ⟨a.block,a.off + j,none⟩ with | some (.int _ x) => x.toNat | _ => 0))
 | _ => 0
theorem rdv_of {w:World} {v:Value} {l:List Nat} (h:Sl w v l):rdv w v = D.val l:=by
 obtain ⟨hb,ao,cap,rfl,hx⟩:=h
 cases ao with
 | none =>
  by_cases h0:0 < l.length
  ·
   obtain ⟨_,b,off,e,_⟩:=hx h0
   cases e
  ·
   have h1:l = []:=List.length_eq_zero_iff.1 (by omega)
   subst h1; rfl
 | some ad =>
  by_cases h0:0 < l.length
  ·
   obtain ⟨_,b,off,e,_,hc⟩:=hx h0
   cases e
   show D.val ((List.range l.length).map (fun j => match w.cell? ⟨b,off + j,none⟩ with | some (.int _ x) => x.toNat | _ => 0)) = D.val l
   congr 1
   apply List.ext_getElem (by simp)
   intro j h1 h2
   simp only [List.getElem_map,List.getElem_range]
   rw [hc j h2]
   simp [List.getD_eq_getElem?_getD,List.getElem?_eq_getElem h2]
  ·
   have h1:l = []:=List.length_eq_zero_iff.1 (by omega)
   subst h1; rfl
def rdc (w:World) (b:Nat):Nat:=match w.cell? ⟨b,1,none⟩ with | some v => rdv w v | none => 0
theorem Off.pair {w:World} {v:Value} {l:List Nat} {B C:Nat} {e0 e1 f0 f1:Value} (h:Off B C w v l) {x y:Nat} (hx:B≤x∧x < C) (hy:B≤y∧y < C):Off B C ((((w.setCell ⟨x,0,none⟩ e0).setCell ⟨x,1,none⟩ e1).setCell ⟨y,0,none⟩ f0).setCell ⟨y,1,none⟩ f1) v l :=
 (((h.other hx.1 hx.2 _).other hx.1 hx.2 _).other hy.1 hy.2 _).other hy.1 hy.2 _
end Go.Proofs.Ytojbncpifpghgaa.D

namespace Go.Proofs.Ytojbncpifpghgaa.D
open Go.RowKit
theorem NIs.len {w:World} {s:Bool} {ao:Option Addr} {k cap:Nat} {z:Int} (h:NIs w s (.slice ao k cap) z):∃ l,Sl w (.slice ao l.length cap) l∧D.Right s l∧int s l = z∧k = l.length:=by
 obtain ⟨l,h1,h2,h3⟩:=h
 have e:k = l.length:=by obtain ⟨_,_,_,he,_⟩:=h1; simp only [Value.slice.injEq] at he; exact he.2.1
 subst e
 exact ⟨l,h1,h2,h3,rfl⟩
end Go.Proofs.Ytojbncpifpghgaa.D
