/- Rows of whole numbers and of bools, lists of such rows, in memory. shuntref13.Check. -/
import Derived.Test.YtlciijlgiknljaaGaa
import Derived.Test.YtlciijlgiknljaaGab
import Derived.Lib.OwnKind
namespace Go.Proofs.Ytlciijlgiknljaa
open Go.RowKit
open V (RowL)
namespace Sp
theorem hid {p:Prop} (h:p):Hid p:=h
def ISl (w:World) (v:Value) (l:List Int):Prop :=
 ∃ (ao:Option Addr) (cap:Nat),v = .slice ao l.length cap ∧
  (0 < l.length→∃ b off:Nat,ao = some ⟨b,off,none⟩∧b < w.heap.size∧∀ j,j < l.length→w.cell? ⟨b,off + j,none⟩ = some (.int .i64 (l.getD j 0)))
theorem ISl.kept {w w':World} {v:Value} {l:List Int} (h:ISl w v l) (k:Kept w w'):ISl w' v l:=by
 obtain ⟨ao,cap,rfl,hx⟩:=h
 refine ⟨ao,cap,rfl,fun h0 => ?_⟩
 obtain ⟨b,off,rfl,hlt,hc⟩:=hx h0
 refine ⟨b,off,rfl,Nat.lt_of_lt_of_le hlt k.size,fun j hj => ?_⟩
 rw [Below.cell k (p:=⟨b,off + j,none⟩) hlt]
 exact hc j hj
theorem ISl.at {w:World} {ao:Option Addr} {n c:Nat} {l:List Int} (h:ISl w (.slice ao n c) l) {j:Nat} (hj:j < l.length):∃ b off:Nat,ao = some ⟨b,off,none⟩∧∀ V,Kept w V→V.cell? ⟨b,off + j,none⟩ = some (.int .i64 (l.getD j 0)):=by
 obtain ⟨ao',c',e,hx⟩:=h
 simp only [Value.slice.injEq] at e
 obtain ⟨rfl,_,_⟩:=e
 obtain ⟨b,off,rfl,hb,hc⟩:=hx (by omega)
 exact ⟨b,off,rfl,fun V K => by rw [Below.cell K (p:=⟨b,off + j,none⟩) hb]; exact hc j hj⟩
theorem ISl.len {w:World} {ao:Option Addr} {n c:Nat} {l:List Int} (h:ISl w (.slice ao n c) l):n = l.length:=by
 obtain ⟨_,_,e,_⟩:=h
 simp at e; exact e.2.1
def PatR (w:World) (v:Value) (P:List (List Int)):Prop :=
 ∃ (ao:Option Addr) (cap:Nat),v = .slice ao P.length cap∧(0 < P.length→∃ b off:Nat,ao = some ⟨b,off,none⟩∧b < w.heap.size∧∀ i,i < P.length→∃ (ra:Option Addr) (rc:Nat),w.cell? ⟨b,off + i,none⟩ = some (.slice ra (P.getD i []).length rc)∧ISl w (.slice ra (P.getD i []).length rc) (P.getD i []))
theorem PatR.kept {w w':World} {v:Value} {P:List (List Int)} (h:PatR w v P) (k:Kept w w'):PatR w' v P:=by
 obtain ⟨ao,cap,rfl,hx⟩:=h
 refine ⟨ao,cap,rfl,fun h0 => ?_⟩
 obtain ⟨b,off,rfl,hlt,hc⟩:=hx h0
 refine ⟨b,off,rfl,Nat.lt_of_lt_of_le hlt k.size,fun i hi => ?_⟩
 obtain ⟨ra,rc,h1,h2⟩:=hc i hi
 exact ⟨ra,rc,by rw [Below.cell k (p:=⟨b,off + i,none⟩) hlt]; exact h1,h2.kept k⟩
theorem PatR.len {w:World} {ao:Option Addr} {n c:Nat} {P:List (List Int)} (h:PatR w (.slice ao n c) P):n = P.length:=by
 obtain ⟨_,_,e,_⟩:=h
 simp at e; exact e.2.1
theorem PatR.row {w:World} {ao:Option Addr} {n c:Nat} {P:List (List Int)} (h:PatR w (.slice ao n c) P) {i:Nat} (hi:i < P.length):∃ b off:Nat,ao = some ⟨b,off,none⟩∧∃ (ra:Option Addr) (rc:Nat),(∀ V,Kept w V→V.cell? ⟨b,off + i,none⟩ = some (.slice ra (P.getD i []).length rc))∧ISl w (.slice ra (P.getD i []).length rc) (P.getD i []):=by
 obtain ⟨ao',c',e,hx⟩:=h
 simp only [Value.slice.injEq] at e
 obtain ⟨rfl,_,_⟩:=e
 obtain ⟨b,off,rfl,hb,hc⟩:=hx (by omega)
 obtain ⟨ra,rc,h1,h2⟩:=hc i hi
 exact ⟨b,off,rfl,ra,rc,fun V K => by rw [Below.cell K (p:=⟨b,off + i,none⟩) hb]; exact h1,h2⟩
def MatR (w:World) (v:Value) (n:Nat) (m:Nat→Nat→Bool):Prop :=
 ∃ (ao:Option Addr) (cap:Nat),v = .slice ao n cap∧(0 < n→∃ b off:Nat,ao = some ⟨b,off,none⟩∧b < w.heap.size∧∀ i,i < n→∃ rb ro rc:Nat,w.cell? ⟨b,off + i,none⟩ = some (.slice (some ⟨rb,ro,none⟩) n rc)∧rb < w.heap.size∧∀ j,j < n→w.cell? ⟨rb,ro + j,none⟩ = some (.bool (m i j)))
theorem MatR.kept {w w':World} {v:Value} {n:Nat} {m:Nat→Nat→Bool} (h:MatR w v n m) (k:Kept w w'):MatR w' v n m:=by
 obtain ⟨ao,cap,rfl,hx⟩:=h
 refine ⟨ao,cap,rfl,fun h0 => ?_⟩
 obtain ⟨b,off,rfl,hlt,hc⟩:=hx h0
 refine ⟨b,off,rfl,Nat.lt_of_lt_of_le hlt k.size,fun i hi => ?_⟩
 obtain ⟨rb,ro,rc,h1,h2,h3⟩:=hc i hi
 exact ⟨rb,ro,rc,by rw [Below.cell k (p:=⟨b,off + i,none⟩) hlt]; exact h1,Nat.lt_of_lt_of_le h2 k.size,fun j hj => by rw [Below.cell k (p:=⟨rb,ro + j,none⟩) h2]; exact h3 j hj⟩
theorem MatR.row {w:World} {ao:Option Addr} {n c:Nat} {m:Nat→Nat→Bool} (h:MatR w (.slice ao n c) n m) {i:Nat} (hi:i < n):∃ b off:Nat,ao = some ⟨b,off,none⟩∧∃ rb ro rc:Nat,(∀ V,Kept w V→V.cell? ⟨b,off + i,none⟩ = some (.slice (some ⟨rb,ro,none⟩) n rc))∧∀ j,j < n→∀ V,Kept w V→V.cell? ⟨rb,ro + j,none⟩ = some (.bool (m i j)):=by
 obtain ⟨ao',c',e,hx⟩:=h
 simp only [Value.slice.injEq] at e
 obtain ⟨rfl,_,_⟩:=e
 obtain ⟨b,off,rfl,hb,hc⟩:=hx (by omega)
 obtain ⟨rb,ro,rc,h1,h2,h3⟩:=hc i hi
 exact ⟨b,off,rfl,rb,ro,rc,fun V K => by rw [Below.cell K (p:=⟨b,off + i,none⟩) hb]; exact h1,fun j hj V K => by rw [Below.cell K (p:=⟨rb,ro + j,none⟩) h2]; exact h3 j hj⟩
def rowOk (n:Nat):Int→List Int→Bool
 | _,[] => true
 | last,x :: t => (decide (last < x) && decide (x < (n:Int))) && rowOk n x t
def okP (P:List (List Int)):Bool:=decide (P.length≤48) && P.all (rowOk P.length (-1))
def chkP (P:List (List Int)):Int:=if okP P = true then 0 else 130
def lastOf (l:List Int) (k:Nat):Int:=if k = 0 then -1 else l.getD (k - 1) 0
theorem drop_at (l:List Int) (i:Nat) (h:i < l.length):l.drop i = l.getD i 0 :: l.drop (i + 1):=by
 rw [List.drop_eq_getElem_cons h,List.getD_eq_getElem?_getD,List.getElem?_eq_getElem h]
 rfl
theorem rowOk_at {n:Nat} {l:List Int} {k:Nat} (hk:k < l.length) (last:Int):rowOk n last (l.drop k) = ((decide (last < l.getD k 0) && decide (l.getD k 0 < (n:Int))) && rowOk n (l.getD k 0) (l.drop (k + 1))):=by
 rw [drop_at l k hk]
 rfl
theorem all_at {P:List (List Int)} {f:List Int→Bool} {i:Nat} (hi:i < P.length):(P.drop i).all f = (f (P.getD i []) && (P.drop (i + 1)).all f):=by
 rw [List.drop_eq_getElem_cons hi,List.all_cons,List.getD_eq_getElem?_getD,List.getElem?_eq_getElem hi]
 rfl
end Sp
end Go.Proofs.Ytlciijlgiknljaa

namespace Go.Proofs.Ytlciijlgiknljaa
open Go.RowKit
namespace Sp
set_option maxRecDepth 100000 in
set_option maxHeartbeats 8000000 in
theorem rcheck_any (ao:Option Addr) (n c:Nat) (P:List (List Int)) (w:World) (h:PatR w (.slice ao n c) P) (hn:n≤1000000) (hr:∀ l ∈ P,l.length≤1000000) :
  Calls Try.prog 23 #[.slice ao n c] w fun e w' => Kept w w'∧e = .returned (.int .i64 (chkP P)):=by
 have hl:=h.len
 have HL:=hid (And.intro h (And.intro hl hr))
 obtain ⟨z,hz⟩:∃ z,z = chkP P:=⟨_,rfl⟩
 have HZ:=hid (show z = if (decide (n≤48) && P.all (rowOk n (-1))) = true then 0 else 130 by rw [hz,hl]; rfl)
 rw [← hz]
 clear h hl hr hz
 go_enter Try.func23,Try.ntmps23
 by_cases h48:48 < n
 ·
  have h1:(48:Int) < (n:Int):=by omega
  have HE:=hid (show z = 130 by rw [HZ.out,decide_eq_false (by omega)]; rfl)
  go_wp2_with fail
  go_ret
  exact ⟨Kept.refl w,by rw [HE.out]; rfl⟩
 ·
  have h1:¬ (48:Int) < (n:Int):=by omega
  have HZ:=hid (show z = if P.all (rowOk n (-1)) = true then 0 else 130 by rw [HZ.out,decide_eq_true (by omega),Bool.true_and])
  go_wp2_with fail
  --%A
  go_loopw [3] (fun v3 wr => ∃ (i:Nat),i≤n∧v3 = .int .i64 (i:Int)∧Hid (Kept w wr∧z = if (P.drop i).all (rowOk n (-1)) = true then 0 else 130)) (fun v3 _ => n - (intOf v3).toNat)
  case atStart => exact ⟨0,Nat.zero_le _,rfl,Kept.refl _,HZ.out⟩
  case round =>
   clear HZ
   obtain ⟨i,hil,rfl,H⟩:=hrel
   by_cases hit:i < n
   ·
    have hii:(i:Int) < (n:Int):=by omega
    have hi0:(0:Int)≤(i:Int):=by omega
    have hiL:i < P.length:=by have:=HL.out.2.1; omega
    obtain ⟨b,off,rfl,ra,rc,hc,hI⟩:=HL.out.1.row hiL
    have HC:=hid hc
    have HI:=hid hI
    have hlen:(P.getD i []).length≤1000000:=HL.out.2.2 _ (by rw [List.getD_eq_getElem?_getD,List.getElem?_eq_getElem hiL]; exact List.getElem_mem hiL)
    have H:=hid (And.intro H.out.1 (show z = if (rowOk n (-1) (P.getD i []) && (P.drop (i + 1)).all (rowOk n (-1))) = true then 0 else 130 by rw [← all_at hiL]; exact H.out.2))
    generalize P.getD i [] = row at HC HI hlen H
    obtain ⟨rl,hrl⟩:∃ r,r = row.length:=⟨_,rfl⟩
    rw [← hrl] at HC HI hlen
    have HR:=hid hrl
    obtain ⟨rest,hrs⟩:∃ r,r = (P.drop (i + 1)).all (rowOk n (-1)):=⟨_,rfl⟩
    rw [← hrs] at H
    have HRS:=hid hrs
    clear hrs
    clear hc hI hrl
    go_wp2_with fail
    --%B
    go_loopw [4,5] (fun v4 v5 wr => ∃ (k:Nat) (x:Int),k≤rl∧v4 = .int .i64 x∧v5 = .int .i64 (k:Int)∧Hid (Kept w wr∧z = if (rowOk n x (row.drop k) && rest) = true then 0 else 130)) (fun _ v5 _ => rl - (intOf v5).toNat)
    case atStart => exact ⟨0,-1,Nat.zero_le _,rfl,rfl,H.out.1,H.out.2⟩
    case round =>
     clear H
     obtain ⟨k,x,hkl,rfl,rfl,H⟩:=hrel
     have c1:=HC.out _ H.out.1
     by_cases hkt:k < rl
     ·
      have hkk:(k:Int) < (rl:Int):=by omega
      have hk0:(0:Int)≤(k:Int):=by omega
      have hkL:k < row.length:=by have:=HR.out; omega
      obtain ⟨b2,o2,rfl,hd⟩:=HI.out.at hkL
      have c2:=hd _ H.out.1
      have H:=hid (And.intro H.out.1 (show z = if (((decide (x < row.getD k 0) && decide (row.getD k 0 < (n:Int))) && rowOk n (row.getD k 0) (row.drop (k + 1))) && rest) = true then 0 else 130 by rw [← rowOk_at hkL]; exact H.out.2))
      clear hd
      generalize row.getD k 0 = y at c2 H
      --%C
      by_cases e1:y≤x
      ·
       have HE:=hid (show z = 130 by rw [H.out.2,decide_eq_false (show ¬ x < y by omega)]; rfl)
       go_wp2_with fail
       go_ret
       exact ⟨H.out.1,by rw [HE.out]; rfl⟩
      ·
       by_cases e2:(n:Int)≤y
       ·
        have HE:=hid (show z = 130 by rw [H.out.2,decide_eq_false (show ¬ y < (n:Int) by omega),Bool.and_false]; rfl)
        go_wp2_with fail
        go_ret
        exact ⟨H.out.1,by rw [HE.out]; rfl⟩
       ·
        have HE:=hid (show z = if (rowOk n y (row.drop (k + 1)) && rest) = true then 0 else 130 by rw [H.out.2,decide_eq_true (show x < y by omega),decide_eq_true (show y < (n:Int) by omega),Bool.true_and,Bool.true_and])
        go_wp2_with fail
        go_roundw
        case rel => exact ⟨k + 1,y,by omega,rfl,by go_num,H.out.1,HE.out⟩
        case measure => show rl - ((k:Int) + 1).toNat < rl - (k:Int).toNat; omega
     ·
      have hkk:¬ (k:Int) < (rl:Int):=by omega
      have HE:=hid (show z = if rest = true then 0 else 130 by rw [H.out.2,List.drop_eq_nil_of_le (by have:=HR.out; omega)]; rfl)
      go_wp2_with fail
      --%D
      go_roundw
      case rel => exact ⟨i + 1,by omega,by go_num,H.out.1,by rw [← HRS.out]; exact HE.out⟩
      case measure => show n - ((i:Int) + 1).toNat < n - (i:Int).toNat; omega
   ·
    have hii:¬ (i:Int) < (n:Int):=by omega
    have HE:=hid (show z = 0 by rw [H.out.2,List.drop_eq_nil_of_le (by have:=HL.out.2.1; omega)]; rfl)
    go_wp2_with fail
    go_ret
    exact ⟨H.out.1,by rw [HE.out]; rfl⟩
end Sp
end Go.Proofs.Ytlciijlgiknljaa
