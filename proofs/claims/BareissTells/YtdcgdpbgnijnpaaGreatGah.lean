/- Rows of whole numbers and of bools, lists of such rows, in memory. shuntref13.Check. -/
import Derived.Test.YtdcgdpbgnijnpaaGreatGaa
import Derived.Test.YtdcgdpbgnijnpaaGreatGad
import Derived.Lib.OwnKind
namespace Go.Proofs.YtdcgdpbgnijnpaaGreat
open Go.RowKit
open V (RowL)
namespace Sp
theorem hid {p:Prop} (h:p):Hid p:=h
def ISl (w:World) (v:Value) (l:List Int):Prop :=
 ∃ (ao:Option Addr) (cap:Nat),v = .slice ao l.length cap ∧
  (0 < l.length→∃ b off:Nat,ao = some ⟨b,off,none⟩∧b < w.heap.size∧∀ j,j < l.length→w.cell? ⟨b,off + j,none⟩ = some (.int .i64 (l.getD j 0)))
theorem ISl.kept {w w':World} {v:Value} {l:List Int} (h:ISl w v l) (k:Kept w w'):ISl w' v l:=by
 obtain ⟨ao,cap,rfl,hx⟩:=h
 refine ⟨ao,cap,rfl,fun h0 => ?_⟩
 obtain ⟨b,off,rfl,hlt,hc⟩:=hx h0
 refine ⟨b,off,rfl,Nat.lt_of_lt_of_le hlt k.size,fun j hj => ?_⟩
 rw [Below.cell k (p:=⟨b,off + j,none⟩) hlt]
 exact hc j hj
theorem ISl.at {w:World} {ao:Option Addr} {n c:Nat} {l:List Int} (h:ISl w (.slice ao n c) l) {j:Nat} (hj:j < l.length):∃ b off:Nat,ao = some ⟨b,off,none⟩∧∀ V,Kept w V→V.cell? ⟨b,off + j,none⟩ = some (.int .i64 (l.getD j 0)):=by
 obtain ⟨ao',c',e,hx⟩:=h
 simp only [Value.slice.injEq] at e
 obtain ⟨rfl,_,_⟩:=e
 obtain ⟨b,off,rfl,hb,hc⟩:=hx (by omega)
 exact ⟨b,off,rfl,fun V K => by rw [Below.cell K (p:=⟨b,off + j,none⟩) hb]; exact hc j hj⟩
theorem ISl.len {w:World} {ao:Option Addr} {n c:Nat} {l:List Int} (h:ISl w (.slice ao n c) l):n = l.length:=by
 obtain ⟨_,_,e,_⟩:=h
 simp at e; exact e.2.1
def PatR (w:World) (v:Value) (P:List (List Int)):Prop :=
 ∃ (ao:Option Addr) (cap:Nat),v = .slice ao P.length cap∧(0 < P.length→∃ b off:Nat,ao = some ⟨b,off,none⟩∧b < w.heap.size∧∀ i,i < P.length→∃ (ra:Option Addr) (rc:Nat),w.cell? ⟨b,off + i,none⟩ = some (.slice ra (P.getD i []).length rc)∧ISl w (.slice ra (P.getD i []).length rc) (P.getD i []))
theorem PatR.kept {w w':World} {v:Value} {P:List (List Int)} (h:PatR w v P) (k:Kept w w'):PatR w' v P:=by
 obtain ⟨ao,cap,rfl,hx⟩:=h
 refine ⟨ao,cap,rfl,fun h0 => ?_⟩
 obtain ⟨b,off,rfl,hlt,hc⟩:=hx h0
 refine ⟨b,off,rfl,Nat.lt_of_lt_of_le hlt k.size,fun i hi => ?_⟩
 obtain ⟨ra,rc,h1,h2⟩:=hc i hi
 exact ⟨ra,rc,by rw [Below.cell k (p:=⟨b,off + i,none⟩) hlt]; exact h1,h2.kept k⟩
theorem PatR.len {w:World} {ao:Option Addr} {n c:Nat} {P:List (List Int)} (h:PatR w (.slice ao n c) P):n = P.length:=by
 obtain ⟨_,_,e,_⟩:=h
 simp at e; exact e.2.1
theorem PatR.row {w:World} {ao:Option Addr} {n c:Nat} {P:List (List Int)} (h:PatR w (.slice ao n c) P) {i:Nat} (hi:i < P.length):∃ b off:Nat,ao = some ⟨b,off,none⟩∧∃ (ra:Option Addr) (rc:Nat),(∀ V,Kept w V→V.cell? ⟨b,off + i,none⟩ = some (.slice ra (P.getD i []).length rc))∧ISl w (.slice ra (P.getD i []).length rc) (P.getD i []):=by
 obtain ⟨ao',c',e,hx⟩:=h
 simp only [Value.slice.injEq] at e
 obtain ⟨rfl,_,_⟩:=e
 obtain ⟨b,off,rfl,hb,hc⟩:=hx (by omega)
 obtain ⟨ra,rc,h1,h2⟩:=hc i hi
 exact ⟨b,off,rfl,ra,rc,fun V K => by rw [Below.cell K (p:=⟨b,off + i,none⟩) hb]; exact h1,h2⟩
def MatR (w:World) (v:Value) (n:Nat) (m:Nat→Nat→Bool):Prop :=
 ∃ (ao:Option Addr) (cap:Nat),v = .slice ao n cap∧(0 < n→∃ b off:Nat,ao = some ⟨b,off,none⟩∧b < w.heap.size∧∀ i,i < n→∃ rb ro rc:Nat,w.cell? ⟨b,off + i,none⟩ = some (.slice (some ⟨rb,ro,none⟩) n rc)∧rb < w.heap.size∧∀ j,j < n→w.cell? ⟨rb,ro + j,none⟩ = some (.bool (m i j)))
theorem MatR.kept {w w':World} {v:Value} {n:Nat} {m:Nat→Nat→Bool} (h:MatR w v n m) (k:Kept w w'):MatR w' v n m:=by
 obtain ⟨ao,cap,rfl,hx⟩:=h
 refine ⟨ao,cap,rfl,fun h0 => ?_⟩
 obtain ⟨b,off,rfl,hlt,hc⟩:=hx h0
 refine ⟨b,off,rfl,Nat.lt_of_lt_of_le hlt k.size,fun i hi => ?_⟩
 obtain ⟨rb,ro,rc,h1,h2,h3⟩:=hc i hi
 exact ⟨rb,ro,rc,by rw [Below.cell k (p:=⟨b,off + i,none⟩) hlt]; exact h1,Nat.lt_of_lt_of_le h2 k.size,fun j hj => by rw [Below.cell k (p:=⟨rb,ro + j,none⟩) h2]; exact h3 j hj⟩
theorem MatR.row {w:World} {ao:Option Addr} {n c:Nat} {m:Nat→Nat→Bool} (h:MatR w (.slice ao n c) n m) {i:Nat} (hi:i < n):∃ b off:Nat,ao = some ⟨b,off,none⟩∧∃ rb ro rc:Nat,(∀ V,Kept w V→V.cell? ⟨b,off + i,none⟩ = some (.slice (some ⟨rb,ro,none⟩) n rc))∧∀ j,j < n→∀ V,Kept w V→V.cell? ⟨rb,ro + j,none⟩ = some (.bool (m i j)):=by
 obtain ⟨ao',c',e,hx⟩:=h
 simp only [Value.slice.injEq] at e
 obtain ⟨rfl,_,_⟩:=e
 obtain ⟨b,off,rfl,hb,hc⟩:=hx (by omega)
 obtain ⟨rb,ro,rc,h1,h2,h3⟩:=hc i hi
 exact ⟨b,off,rfl,rb,ro,rc,fun V K => by rw [Below.cell K (p:=⟨b,off + i,none⟩) hb]; exact h1,fun j hj V K => by rw [Below.cell K (p:=⟨rb,ro + j,none⟩) h2]; exact h3 j hj⟩
def rowOk (n:Nat):Int→List Int→Bool
 | _,[] => true
 | last,x :: t => (decide (last < x) && decide (x < (n:Int))) && rowOk n x t
def okP (P:List (List Int)):Bool:=decide (P.length≤48) && P.all (rowOk P.length (-1))
def chkP (P:List (List Int)):Int:=if okP P = true then 0 else 130
def lastOf (l:List Int) (k:Nat):Int:=if k = 0 then -1 else l.getD (k - 1) 0
theorem drop_at (l:List Int) (i:Nat) (h:i < l.length):l.drop i = l.getD i 0 :: l.drop (i + 1):=by
 rw [List.drop_eq_getElem_cons h,List.getD_eq_getElem?_getD,List.getElem?_eq_getElem h]
 rfl
theorem rowOk_at {n:Nat} {l:List Int} {k:Nat} (hk:k < l.length) (last:Int):rowOk n last (l.drop k) = ((decide (last < l.getD k 0) && decide (l.getD k 0 < (n:Int))) && rowOk n (l.getD k 0) (l.drop (k + 1))):=by
 rw [drop_at l k hk]
 rfl
theorem all_at {P:List (List Int)} {f:List Int→Bool} {i:Nat} (hi:i < P.length):(P.drop i).all f = (f (P.getD i []) && (P.drop (i + 1)).all f):=by
 rw [List.drop_eq_getElem_cons hi,List.all_cons,List.getD_eq_getElem?_getD,List.getElem?_eq_getElem hi]
 rfl
end Sp
end Go.Proofs.YtdcgdpbgnijnpaaGreat

namespace Go.Proofs.YtdcgdpbgnijnpaaGreat
open Go.RowKit
namespace Sp
end Sp
end Go.Proofs.YtdcgdpbgnijnpaaGreat
