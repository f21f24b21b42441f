/- plus, minus, mags of package shuntref01: sums and differences of magnitudes in digits, and how they are held against one another. minus, mags of package shuntref01. -/
import Derived.Test.YtojbncpifpghgaaGad
import Derived.Deep.LoopGhost
namespace Go.Proofs.Ytojbncpifpghgaa
open Go.RowKit
namespace D
theorem Sl.at {w:World} {ao:Option Addr} {cap:Nat} {l:List Nat} (h:Sl w (.slice ao l.length cap) l) {k:Nat} (hk:k < l.length):∃ b off:Nat,ao = some ⟨b,off,none⟩∧l.length≤cap∧w.cell? ⟨b,off + k,none⟩ = some (.int .i64 ((l.getD k 0:Nat):Int)):=by
 obtain ⟨_,ao',cap',hv,hx⟩:=h
 simp only [Value.slice.injEq,true_and] at hv
 obtain ⟨rfl,rfl⟩:=hv
 obtain ⟨h1,b,off,e,_,hc⟩:=hx (by omega)
 exact ⟨b,off,e,h1,hc k hk⟩
end D
end Go.Proofs.Ytojbncpifpghgaa

namespace Go.Proofs.Ytojbncpifpghgaa
open Go.RowKit
namespace D
theorem drop_pred {a b:List Nat} {k:Nat} (hk:0 < k) (hka:k≤a.length) (hl:a.length = b.length) (hd:a.drop k = b.drop k) (h:a.getD (k - 1) 0 = b.getD (k - 1) 0):a.drop (k - 1) = b.drop (k - 1):=by
 rw [List.drop_eq_getElem_cons (l:=a) (i:=k - 1) (by omega),List.drop_eq_getElem_cons (l:=b) (i:=k - 1) (by omega),show k - 1 + 1 = k by omega,hd]
 rw [List.getD_eq_getElem?_getD,List.getD_eq_getElem?_getD,List.getElem?_eq_getElem (by omega),List.getElem?_eq_getElem (by omega)] at h
 simp at h
 rw [h]
end D
end Go.Proofs.Ytojbncpifpghgaa
