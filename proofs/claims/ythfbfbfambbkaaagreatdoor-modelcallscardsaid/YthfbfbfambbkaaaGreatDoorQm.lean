/- Decimal numbers with letters: what a text says, and the one text of a number: arithmetic of bytes alone. -/
import Derived.Test.YthfbfbfambbkaaaGreatDoorDecm
import Derived.Lib.TrimByte
namespace Go.Proofs.YthfbfbfambbkaaaGreatDoor
namespace Q
def isd (c:UInt8):Bool:=decide (48<=c.toNat/\c.toNat<=57)
def dgs (L:List UInt8):List UInt8:=L.takeWhile isd
def rst (L:List UInt8):List UInt8:=L.dropWhile isd
def hd (c:UInt8) (L:List UInt8):Bool:=decide (L.head? = some c)
def cutB (c:UInt8) (L:List UInt8):List UInt8:=if hd c L then L.tail else L
def names:List (List UInt8 × Int):=[([102],-15),([112],-12),([110],-9),([117],-6),([109],-3),([],0),([107],3),([109,101,103],6),([103],9),([116],12)]
def lettOf (L:List UInt8):Option Int:=(names.find? fun p => decide (p.1 = L)).map (·.2)
def behindE (L:List UInt8):List UInt8:=if hd 45 (cutB 101 L) then cutB 45 (cutB 101 L) else cutB 43 (cutB 101 L)
def powOf (L:List UInt8):Option Int :=
 match lettOf L with
 | some e => some e
 | none => if hd 101 L = true/\rst (behindE L) = []/\1<=(dgs (behindE L)).length/\(dgs (behindE L)).length<=2 then some (if hd 45 (cutB 101 L) then -(dv (dgs (behindE L)):Int) else dv (dgs (behindE L))) else none
def pnt (L:List UInt8):Bool:=hd 46 (rst (cutB 45 L))
def beh (L:List UInt8):List UInt8:=if pnt L then dgs (cutB 46 (rst (cutB 45 L))) else []
def tl (L:List UInt8):List UInt8:=if pnt L then rst (cutB 46 (rst (cutB 45 L))) else cutB 46 (rst (cutB 45 L))
def readOf (L:List UInt8):Option (Bool × List UInt8 × Int) :=
 if 32 < L.length then none else
 match powOf (tl L) with
 | none => none
 | some x => if dgs (cutB 45 L) = [] ∨ (pnt L = true/\beh L = []) then none else some (hd 45 L,dgs (cutB 45 L) ++ beh L,x - (beh L).length)
def okN (m x:Int):Bool:=if m = 0 then decide (x = 0) else decide (-999999999<=m/\m<=999999999/\m.tmod 10 ≠ 0/\-18<=x/\x<=9)
def trz (D:List UInt8):List UInt8:=Lib.trimRightB D 48
def numOf (neg:Bool) (D:List UInt8) (x:Int):Option (Int × Int) :=
 if trz D = [] then some (0,0) else
 if dv (trz D) < 9223372036854775808/\okN (if neg then -(dv (trz D):Int) else dv (trz D)) (x + D.length - (trz D).length) = true then some (if neg then -(dv (trz D):Int) else dv (trz D),x + D.length - (trz D).length) else none
def fin:Option (Int × Int)->Int × Int × Int
 | none => (0,0,30)
 | some p => (p.1,p.2,0)
def parseOf (L:List UInt8):Int × Int × Int :=
 match readOf L with
 | none => (0,0,3)
 | some r => fin (numOf r.1 r.2.1 r.2.2)
def below (x:Int):Option (List UInt8 × Int):=names.foldl (fun a p => if p.2<=x then some p else a) none
def textOf (m x:Int):List UInt8 :=
 match below x with
 | none => Lib.itoa m ++ [101] ++ Lib.itoa x
 | some (n,p) => Lib.itoa m ++ List.replicate (x - p).toNat 48 ++ n
def sg (n:Bool):List UInt8:=if n then [45] else []
theorem okN_iff {m x:Int}:okN m x = true ↔ (m = 0/\x = 0) ∨ (m ≠ 0/\-999999999<=m/\m<=999999999/\m.tmod 10 ≠ 0/\-18<=x/\x<=9):=by
 unfold okN
 by_cases h:m = 0
 ·
  simp [h]
 ·
  rw [if_neg h]; simp [h]
theorem dec_len {u k:Nat} (hk:0 < k) (h:u < 10 ^ k):(Lib.decDigits u).length<=k:=by
 induction k generalizing u with
 | zero => omega
 | succ k ih =>
  rw [Lib.decDigits]
  split
  ·
   simp
  ·
   rw [List.length_append,List.length_singleton]
   by_cases h0:k = 0
   ·
    subst h0; omega
   ·
    have:=ih (u:=u / 10) (by omega) (by rw [Nat.pow_succ] at h; omega)
    omega
end Q
end Go.Proofs.YthfbfbfambbkaaaGreatDoor
