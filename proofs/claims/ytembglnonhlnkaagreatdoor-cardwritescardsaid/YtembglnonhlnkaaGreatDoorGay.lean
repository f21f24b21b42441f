/- The reference's fractions (package shuntref02): variables on the heap, values, lowest terms. shuntref02.Lowest: a fraction in lowest terms. shuntref02: Take, Give, told, Times, Held. shuntref02: Take, Give, told. shuntref02: Plus, Over, Held, Minus, Less, Sign. New variables of the reference's numbers. shuntref02.Near: the nearest whole number, of two the even one. shuntref02: told, Make. rat's Make, Round, Whole, of whatever is handed in. shuntref02: Grid, Round. -/
import Derived.Test.YtembglnonhlnkaaGreatDoorRset2
import Derived.Test.YtembglnonhlnkaaGreatDoorGaj
import Derived.Test.YtembglnonhlnkaaGreatDoorGak
import Derived.Test.YtembglnonhlnkaaGreatDoorGao
import Derived.Test.YtembglnonhlnkaaGreatDoorGan
import Derived.Test.YtembglnonhlnkaaGreatDoorGai
import Derived.Test.YtembglnonhlnkaaGreatDoorGas
import Derived.Test.YtembglnonhlnkaaGreatDoorRwhole
namespace Go.Proofs.YtembglnonhlnkaaGreatDoor
open Go.RowKit
namespace F
def NRow (w:World) (p:Nat) (x0 x1:Value):Prop:=w.rowIs p 87 2 (fun i => if i = 0 then x0 else x1)
theorem NRow.alloc (w:World) (x0 x1:Value):NRow (w.alloc (.cells #[x0,x1] 87)) w.heap.size x0 x1 :=
 World.rowIs_alloc w #[x0,x1] 87 _ (fun i hi => by
  match i,hi with
  | 0,_ => rfl
  | 1,_ => rfl)
section
variable {w w':World} {p q:Nat} {x0 x1:Value}
theorem NRow.lt (h:NRow w p x0 x1):p < w.heap.size:=World.rowIs.lt h
theorem NRow.c0 (h:NRow w p x0 x1):w.cell? ⟨p,0,none⟩ = some x0:=World.rowIs.cell h (i:=0) (by omega)
theorem NRow.c1 (h:NRow w p x0 x1):w.cell? ⟨p,1,none⟩ = some x1:=World.rowIs.cell h (i:=1) (by omega)
theorem NRow.fz (h:NRow w p x0 x1) (o:Nat):w.frozen? ⟨p,o,none⟩ = false:=World.rowIs.frozen h o
theorem NRow.kept (h:NRow w p x0 x1) (k:Kept w w'):NRow w' p x0 x1:=World.rowIs.of_block h (k.block p h.lt)
theorem NRow.set2 (h:NRow w p x0 x1) (y0 y1:Value):NRow ((w.setCell ⟨p,0,none⟩ y0).setCell ⟨p,1,none⟩ y1) p y0 y1 :=
 ((World.rowIs.set (World.rowIs.set h 0 y0) 1 y1).congr fun i hi => by
  match i,hi with
  | 0,_ => rfl
  | 1,_ => rfl)
theorem NRow.far (h:NRow w p x0 x1) (hne:¬ p = q) (x y:Value):NRow ((w.setCell ⟨q,0,none⟩ x).setCell ⟨q,1,none⟩ y) p x0 x1 :=
 World.rowIs.setOther (World.rowIs.setOther h hne x) hne y
end
def FRow (w:World) (p:Nat) (x0 x1 x2 x3:Value):Prop:=w.rowIs p 89 4 (fun i => if i = 0 then x0 else if i = 1 then x1 else if i = 2 then x2 else x3)
theorem FRow.alloc (w:World) (x0 x1 x2 x3:Value):FRow (w.alloc (.cells #[x0,x1,x2,x3] 89)) w.heap.size x0 x1 x2 x3 :=
 World.rowIs_alloc w #[x0,x1,x2,x3] 89 _ (fun i hi => by
  match i,hi with
  | 0,_ => rfl
  | 1,_ => rfl
  | 2,_ => rfl
  | 3,_ => rfl)
section
variable {w w':World} {p q:Nat} {x0 x1 x2 x3:Value}
theorem FRow.lt (h:FRow w p x0 x1 x2 x3):p < w.heap.size:=World.rowIs.lt h
theorem FRow.c0 (h:FRow w p x0 x1 x2 x3):w.cell? ⟨p,0,none⟩ = some x0:=World.rowIs.cell h (i:=0) (by omega)
theorem FRow.c1 (h:FRow w p x0 x1 x2 x3):w.cell? ⟨p,1,none⟩ = some x1:=World.rowIs.cell h (i:=1) (by omega)
theorem FRow.c2 (h:FRow w p x0 x1 x2 x3):w.cell? ⟨p,2,none⟩ = some x2:=World.rowIs.cell h (i:=2) (by omega)
theorem FRow.c3 (h:FRow w p x0 x1 x2 x3):w.cell? ⟨p,3,none⟩ = some x3:=World.rowIs.cell h (i:=3) (by omega)
theorem FRow.fz (h:FRow w p x0 x1 x2 x3) (o:Nat):w.frozen? ⟨p,o,none⟩ = false:=World.rowIs.frozen h o
theorem FRow.kept (h:FRow w p x0 x1 x2 x3) (k:Kept w w'):FRow w' p x0 x1 x2 x3:=World.rowIs.of_block h (k.block p h.lt)
end
def put4 (w:World) (p:Nat) (x0 x1 x2 x3:Value):World:=(((w.setCell ⟨p,0,none⟩ x0).setCell ⟨p,1,none⟩ x1).setCell ⟨p,2,none⟩ x2).setCell ⟨p,3,none⟩ x3
theorem Kept.put4 {a b:World} {p:Nat} (h:Kept a b) (hp:a.heap.size≤p) (x0 x1 x2 x3:Value):Kept a (put4 b p x0 x1 x2 x3) :=
 (((h.setCell (p:=⟨p,0,none⟩) hp x0).setCell (p:=⟨p,1,none⟩) hp x1).setCell (p:=⟨p,2,none⟩) hp x2).setCell (p:=⟨p,3,none⟩) hp x3
def FIs (w:World) (v:Value) (X Y:Int) (k k':Nat):Prop :=
 ∃ s ao n c t ap n' c',v = .agg #[.bool s,.slice ao n c,.bool t,.slice ap n' c']∧D.NIs w s (.slice ao n c) X∧D.NIs w t (.slice ap n' c') Y∧n≤k∧n'≤k'
theorem FIs.kept {w w':World} {v:Value} {X Y:Int} {k k':Nat} (h:FIs w v X Y k k') (hk:Kept w w'):FIs w' v X Y k k':=by
 obtain ⟨s,ao,n,c,t,ap,n',c',h1,h2,h3,h4⟩:=h
 exact ⟨s,ao,n,c,t,ap,n',c',h1,h2.kept hk,h3.kept hk,h4⟩
structure Low (X Y N D:Int):Prop where
 pos:0 < D
 low:Nat.gcd N.natAbs D.natAbs = 1
 eq:N * Y = X * D
theorem Low.neg {X Y N D:Int} (h:Low (-X) (-Y) N D):Low X Y N D:=⟨h.pos,h.low,by have:=h.eq; rw [Int.mul_neg,Int.neg_mul] at this; omega⟩
theorem Low.one {X Y N D N' D':Int} (h:Low X Y N D) (h':Low X Y N' D') (hY:Y ≠ 0):N = N'∧D = D':=by
 obtain ⟨p1,l1,e1⟩:=h
 obtain ⟨p2,l2,e2⟩:=h'
 have key:N * D' = N' * D:=by
  apply Int.eq_of_mul_eq_mul_right hY
  have a1:N * D' * Y = (N * Y) * D':=by grind
  have a2:N' * D * Y = (N' * Y) * D:=by grind
  rw [a1,a2,e1,e2]
  grind
 have e:=congrArg Int.natAbs key
 rw [Int.natAbs_mul,Int.natAbs_mul] at e
 have d1:D.natAbs ∣ D'.natAbs:=(Nat.Coprime.symm l1).dvd_of_dvd_mul_left (by rw [e]; exact Nat.dvd_mul_left _ _)
 have d2:D'.natAbs ∣ D.natAbs:=(Nat.Coprime.symm l2).dvd_of_dvd_mul_left (by rw [← e]; exact Nat.dvd_mul_left _ _)
 have hd:=Nat.dvd_antisymm d1 d2
 have hD:D = D':=by omega
 subst hD
 exact ⟨Int.eq_of_mul_eq_mul_right (by omega) key,rfl⟩
end F
end Go.Proofs.YtembglnonhlnkaaGreatDoor

namespace Go.Proofs.YtembglnonhlnkaaGreatDoor
open Go.RowKit
namespace F
theorem FRow.far {w:World} {p q:Nat} {x0 x1 x2 x3:Value} (h:FRow w p x0 x1 x2 x3) (hne:¬ p = q) (x y:Value):FRow ((w.setCell ⟨q,0,none⟩ x).setCell ⟨q,1,none⟩ y) p x0 x1 x2 x3 :=
 World.rowIs.setOther (World.rowIs.setOther h hne x) hne y
end F
end Go.Proofs.YtembglnonhlnkaaGreatDoor

namespace Go.Proofs.YtembglnonhlnkaaGreatDoor
open Go.RowKit
namespace F
def ToldIs (B:Nat) (w:World) (e:Ending) (N D:Int):Prop :=
 (∃ s ao k c l t ap k' c' l',e = .returned (.tuple #[.agg #[.bool s,.slice ao k c,.bool t,.slice ap k' c'],.int .i64 0])∧New B w (.slice ao k c) l∧M.Right s l∧M.int s l = N∧New B w (.slice ap k' c') l'∧M.Right t l'∧M.int t l' = D) ∨ (e = .returned (.tuple #[.agg #[.bool false,.slice none 0 0,.bool false,.slice none 0 0],.int .i64 13])∧(M.W72≤N.natAbs ∨ M.W72≤D.natAbs))
theorem New.rset4 {B p:Nat} {w:World} {v:Value} {l:List Nat} {y0 y1 y2 y3:Value} (h:New B w v l) (hz:RRow w p y0 y1 y2 y3) (x0 x1 x2 x3:Value):New B (put4 w p x0 x1 x2 x3) v l:=by
 obtain ⟨hb,⟨rfl,rfl⟩ | ⟨b,N,f,rfl,hB,hN,hr,hf⟩⟩:=h
 ·
  exact ⟨hb,.inl ⟨rfl,rfl⟩⟩
 ·
  have hne:b ≠ p:=by
   intro e
   subst e
   obtain ⟨c,h1,_,_⟩:=hr
   obtain ⟨c',h2,_,_⟩:=hz
   rw [h1] at h2
   simp at h2
  exact ⟨hb,.inr ⟨b,N,f,rfl,hB,hN,World.rowIs.setOther (World.rowIs.setOther (World.rowIs.setOther (World.rowIs.setOther hr hne x0) hne x1) hne x2) hne x3,hf⟩⟩
end F
end Go.Proofs.YtembglnonhlnkaaGreatDoor

namespace Go.Proofs.YtembglnonhlnkaaGreatDoor
open Go.RowKit
namespace F
def ToldX (B:Nat) (w:World) (s:Bool) (ao:Option Addr) (k c:Nat) (t:Bool) (ap:Option Addr) (k' c':Nat) (ec N Q:Int):Prop :=
 (ec = 0∧∃ l l',New B w (.slice ao k c) l∧M.Right s l∧M.int s l = N∧New B w (.slice ap k' c') l'∧M.Right t l'∧M.int t l' = Q) ∨ (ec = 13∧s = false∧t = false∧(ao,k,c) = (none,0,0)∧(ap,k',c') = (none,0,0)∧(M.W72≤N.natAbs ∨ M.W72≤Q.natAbs))
theorem ToldIs.split {B:Nat} {w:World} {e:Ending} {N Q:Int} (h:ToldIs B w e N Q):∃ s ao k c t ap k' c' ec,e = .returned (.tuple #[.agg #[.bool s,.slice ao k c,.bool t,.slice ap k' c'],.int .i64 ec])∧ToldX B w s ao k c t ap k' c' ec N Q:=by
 rcases h with ⟨s,ao,k,c,l,t,ap,k',c',l',rfl,h1,h2,h3,h4,h5,h6⟩ | ⟨rfl,h⟩
 ·
  exact ⟨s,ao,k,c,t,ap,k',c',0,rfl,.inl ⟨rfl,l,l',h1,h2,h3,h4,h5,h6⟩⟩
 ·
  exact ⟨false,none,0,0,false,none,0,0,13,rfl,.inr ⟨rfl,rfl,rfl,rfl,rfl,h⟩⟩
theorem ToldX.mono {B B':Nat} {w:World} {s t:Bool} {ao ap:Option Addr} {k c k' c':Nat} {ec N Q:Int} (h:ToldX B w s ao k c t ap k' c' ec N Q) (hB:B'≤B):ToldX B' w s ao k c t ap k' c' ec N Q:=by
 rcases h with ⟨e,l,l',h1,h2,h3,h4,h5⟩ | h
 ·
  exact .inl ⟨e,l,l',h1.mono hB,h2,h3,h4.mono hB,h5⟩
 ·
  exact .inr h
theorem ToldX.put4 {B p:Nat} {w:World} {s t:Bool} {ao ap:Option Addr} {k c k' c':Nat} {ec N Q:Int} {y0 y1 y2 y3:Value} (h:ToldX B w s ao k c t ap k' c' ec N Q) (hz:RRow w p y0 y1 y2 y3) (x0 x1 x2 x3:Value):ToldIs B (F.put4 w p x0 x1 x2 x3) (.returned (.tuple #[.agg #[.bool s,.slice ao k c,.bool t,.slice ap k' c'],.int .i64 ec])) N Q:=by
 rcases h with ⟨rfl,l,l',h1,h2,h3,h4,h5,h6⟩ | ⟨rfl,rfl,rfl,h1,h2,h3⟩
 ·
  exact .inl ⟨s,ao,k,c,l,t,ap,k',c',l',rfl,New.rset4 h1 hz _ _ _ _,h2,h3,New.rset4 h4 hz _ _ _ _,h5,h6⟩
 ·
  simp only [Prod.mk.injEq] at h1 h2
  obtain ⟨rfl,rfl,rfl⟩:=h1
  obtain ⟨rfl,rfl,rfl⟩:=h2
  exact .inr ⟨rfl,h3⟩
def GivenIs (B:Nat) (w:World) (e:Ending) (N D:Int) (k k':Nat):Prop :=
 ∃ s ao n c l t ap n' c' l',e = .returned (.agg #[.bool s,.slice ao n c,.bool t,.slice ap n' c'])∧New B w (.slice ao n c) l∧M.Tr l∧M.int s l = N∧l.length = (k + 1) / 2∧(l = []→s = false)∧New B w (.slice ap n' c') l'∧M.Tr l'∧M.int t l' = D∧l'.length = (k' + 1) / 2∧(l' = []→t = false)
end F
end Go.Proofs.YtembglnonhlnkaaGreatDoor

namespace Go.Proofs.YtembglnonhlnkaaGreatDoor
open Go.RowKit
namespace F
end F
end Go.Proofs.YtembglnonhlnkaaGreatDoor

namespace Go.Proofs.YtembglnonhlnkaaGreatDoor
open Go.RowKit
namespace F
def ZN (w:World) (p:Nat):Prop:=w.rowIs p 87 2 (fun i => if i = 0 then .bool false else .slice none 0 0)
theorem ZN.alloc (w:World):ZN (w.alloc (.cells #[.bool false,.slice none 0 0] 87)) w.heap.size :=
 World.rowIs_alloc w #[.bool false,.slice none 0 0] 87 _ (fun i hi => by
  match i,hi with
  | 0,_ => rfl
  | 1,_ => rfl)
theorem ZN.lt {w:World} {p:Nat} (h:ZN w p):p < w.heap.size:=World.rowIs.lt h
theorem ZN.c0 {w:World} {p:Nat} (h:ZN w p):w.cell? ⟨p,0,none⟩ = some (.bool false):=World.rowIs.cell h (i:=0) (by omega)
theorem ZN.c1 {w:World} {p:Nat} (h:ZN w p):w.cell? ⟨p,1,none⟩ = some (.slice none 0 0):=World.rowIs.cell h (i:=1) (by omega)
theorem ZN.fz {w:World} {p:Nat} (h:ZN w p) (o:Nat):w.frozen? ⟨p,o,none⟩ = false:=World.rowIs.frozen h o
theorem ZN.kept {p:Nat} {w w':World} (h:ZN w p) (k:Kept w w'):ZN w' p:=World.rowIs.of_block h (k.block p h.lt)
theorem ZN.far {w:World} {p q:Nat} (h:ZN w p) (hne:¬ p = q) (x y:Value):ZN ((w.setCell ⟨q,0,none⟩ x).setCell ⟨q,1,none⟩ y) p :=
 World.rowIs.setOther (World.rowIs.setOther h hne x) hne y
end F
end Go.Proofs.YtembglnonhlnkaaGreatDoor

namespace Go.Proofs.YtembglnonhlnkaaGreatDoor
open Go.RowKit
namespace F
def Cell2 (w:World) (p:Nat) (x0 x1:Value):Prop:=w.cell? ⟨p,0,none⟩ = some x0∧w.cell? ⟨p,1,none⟩ = some x1
theorem Cell2.c0 {w:World} {p:Nat} {x0 x1:Value} (h:Cell2 w p x0 x1):w.cell? ⟨p,0,none⟩ = some x0:=h.1
theorem Cell2.c1 {w:World} {p:Nat} {x0 x1:Value} (h:Cell2 w p x0 x1):w.cell? ⟨p,1,none⟩ = some x1:=h.2
theorem Cell2.kept {w w':World} {p:Nat} {x0 x1:Value} (h:Cell2 w p x0 x1) (k:Kept w w'):Cell2 w' p x0 x1:=⟨cell_kept k h.1,cell_kept k h.2⟩
end F
end Go.Proofs.YtembglnonhlnkaaGreatDoor

namespace Go.Proofs.YtembglnonhlnkaaGreatDoor
open Go.RowKit
namespace F
def MadeIs (B:Nat) (w:World) (e:Ending) (m n:Bool) (a b:List Nat):Prop :=
 (¬ (R m a∧R n b)∧e = .returned (.tuple #[.agg #[.bool false,.slice none 0 0,.bool false,.slice none 0 0],.int .i64 10])) ∨ (R m a∧R n b∧((b.length = 0∧e = .returned (.tuple #[.agg #[.bool false,.slice none 0 0,.bool false,.slice none 0 0],.int .i64 11])) ∨ (0 < b.length∧∃ N Q,Low (M.int m a) (M.int n b) N Q∧ToldIs B w e N Q)))
end F
end Go.Proofs.YtembglnonhlnkaaGreatDoor

namespace Go.Proofs.YtembglnonhlnkaaGreatDoor
open Go.RowKit
namespace F
def FaultC (m n:Bool) (a d:List Nat) (c:Int):Prop:=(c = 10∧¬ (R m a∧R n d)) ∨ (c = 20∧R m a∧R n d∧¬ RatR m n a d) ∨ (c = 0∧RatR m n a d)
theorem FaultC.one {m n:Bool} {a d:List Nat} {c c':Int} (h:FaultC m n a d c) (h':FaultC m n a d c'):c = c':=by
 rcases h with ⟨rfl,h⟩ | ⟨rfl,h1,h2,h3⟩ | ⟨rfl,h⟩ <;> rcases h' with ⟨rfl,h'⟩ | ⟨rfl,h1',h2',h3'⟩ | ⟨rfl,h'⟩
 ·
  rfl
 ·
  exact absurd ⟨h1',h2'⟩ h
 ·
  exact absurd ⟨h'.ra,h'.rd⟩ h
 ·
  exact absurd ⟨h1,h2⟩ h'
 ·
  rfl
 ·
  exact absurd h' h3
 ·
  exact absurd ⟨h.ra,h.rd⟩ h'
 ·
  exact absurd h h3'
 ·
  rfl
def RoundIs (e:Ending) (m n:Bool) (a d:List Nat):Prop:=∃ c,FaultC m n a d c∧((c ≠ 0∧e = .returned (.tuple #[.int .i64 0,.int .i64 c])) ∨ (c = 0∧e = .returned (.tuple #[.int .i64 (gridV (near (M.int m a) (M.val d))),.int .i64 (gridE (near (M.int m a) (M.val d)))])))
end F
end Go.Proofs.YtembglnonhlnkaaGreatDoor

namespace Go.Proofs.YtembglnonhlnkaaGreatDoor
open Go.RowKit
namespace F
end F
end Go.Proofs.YtembglnonhlnkaaGreatDoor
