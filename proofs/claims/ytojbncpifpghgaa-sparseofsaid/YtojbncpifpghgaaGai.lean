/- Small, Length, Minus of package shuntref01. Times of package shuntref01: the product of two numbers. Plus, Less, Times of package shuntref01, as whole numbers with signs. digit of shuntref01: one digit of a quotient, by halving. -/
import Derived.Test.YtojbncpifpghgaaGah
import Derived.Test.YtojbncpifpghgaaGae
import Derived.Test.YtojbncpifpghgaaGaf
namespace Go.Proofs.Ytojbncpifpghgaa
open Go.RowKit
namespace D
theorem Sl.far {w:World} {b off n cap:Nat} {l:List Nat} (h:Sl w (.slice (some ⟨b,off,none⟩) n cap) l) {p:Addr} (hp:p.block ≠ b) (u:Value):Sl (w.setCell p u) (.slice (some ⟨b,off,none⟩) n cap) l:=by
 obtain ⟨hb,ao,cap',hv,hx⟩:=h
 simp only [Value.slice.injEq] at hv
 obtain ⟨rfl,rfl,rfl⟩:=hv
 refine ⟨hb,_,cap,rfl,fun h0 => ?_⟩
 obtain ⟨h1,b',off',e,hlt,hc⟩:=hx h0
 simp only [Option.some.injEq,Addr.mk.injEq] at e
 obtain ⟨rfl,rfl,_⟩:=e
 exact ⟨h1,b,off,rfl,by rw [World.size_setCell]; exact hlt,fun j hj => by rw [World.cell?_setCell_far _ _ _ _ hp]; exact hc j hj⟩
theorem Sl.box {w:World} {v:Value} {l:List Nat} {b:Nat} {q:Bool} {ao:Option Addr} {n cap:Nat} (h:Sl w v l) (h0:w.cell? ⟨b,0,none⟩ = some (.bool q)) (h1:w.cell? ⟨b,1,none⟩ = some (.slice ao n cap)) (x y:Value):Sl ((w.setCell ⟨b,0,none⟩ x).setCell ⟨b,1,none⟩ y) v l:=by
 obtain ⟨hb,ao,cap',rfl,hx⟩:=h
 refine ⟨hb,ao,cap',rfl,fun hl => ?_⟩
 obtain ⟨k1,b',off',rfl,hlt,hc⟩:=hx hl
 refine ⟨k1,b',off',rfl,by rw [World.size_setCell,World.size_setCell]; exact hlt,fun j hj => ?_⟩
 rw [World.cell?_setCell_other _ _ _ _ (fun e => by have:=hc j hj; rw [← e,h1] at this; simp at this),World.cell?_setCell_other _ _ _ _ (fun e => by have:=hc j hj; rw [← e,h0] at this; simp at this)]
 exact hc j hj
def NIs (w:World) (s:Bool) (v:Value) (z:Int):Prop:=∃ l,Sl w v l∧Right s l∧int s l = z
theorem NIs.kept {w w':World} {s:Bool} {v:Value} {z:Int} (h:NIs w s v z) (k:Kept w w'):NIs w' s v z:=by
 obtain ⟨l,h1,h2⟩:=h
 exact ⟨l,h1.kept k,h2⟩
end D
end Go.Proofs.Ytojbncpifpghgaa

namespace Go.Proofs.Ytojbncpifpghgaa
open Go.RowKit
namespace D
end D
end Go.Proofs.Ytojbncpifpghgaa

namespace Go.Proofs.Ytojbncpifpghgaa
open Go.RowKit
namespace D
theorem Sl.len {w:World} {ao:Option Addr} {n cap:Nat} {l:List Nat} (h:Sl w (.slice ao n cap) l):n = l.length:=by
 obtain ⟨_,ao',cap',he,_⟩:=h
 simp only [Value.slice.injEq] at he
 exact he.2.1
theorem int_zero {m:Bool} {l:List Nat} (h:l.length = 0):int m l = 0:=by
 have:l = []:=List.length_eq_zero_iff.1 h
 subst this; cases m <;> rfl
theorem NIs.mk {w:World} {q:Bool} {ao:Option Addr} {k cap:Nat} {l:List Nat} {z:Int} (h:Sl w (.slice ao k cap) l) (ht:D.Tr l) (hz:int q l = z):NIs w (q && decide (0 < k)) (.slice ao k cap) z:=by
 have hk:=h.len
 refine ⟨l,h,⟨h.bd,ht,fun e => by rw [hk,e]; simp⟩,?_⟩
 by_cases h0:0 < k
 ·
  simpa [h0] using hz
 ·
  rw [int_zero (by omega),← hz,int_zero (by omega)]
end D
end Go.Proofs.Ytojbncpifpghgaa

namespace Go.Proofs.Ytojbncpifpghgaa.D
open Go.RowKit
end Go.Proofs.Ytojbncpifpghgaa.D
