/- plus, minus, mags of package shuntref01: sums and differences of magnitudes in digits, and how they are held against one another. minus, mags of package shuntref01. -/
import Derived.Test.YtlfhcbeniimnnabGreatGad
import Derived.Deep.LoopGhost
namespace Go.Proofs.YtlfhcbeniimnnabGreat
open Go.RowKit
namespace D
theorem sum_step {a b p:List Nat} {k c x y s:Nat} (hx:x = a.getD k 0) (hy:y = b.getD k 0) (hs:s = c + x + y) (hp:p.length = k)
  (h:D.val p + 65536 ^ k * c = D.val (a.take k) + D.val (b.take k)) :
  D.val (p ++ [s % 65536]) + 65536 ^ (k + 1) * (s / 65536) = D.val (a.take (k + 1)) + D.val (b.take (k + 1)):=by
 rw [D.val_snoc,hp,D.take_succ_getD,D.take_succ_getD,← hx,← hy,Nat.pow_succ,Nat.mul_assoc]
 have e:65536 ^ k * (s % 65536) + 65536 ^ k * (65536 * (s / 65536)) = 65536 ^ k * s:=by
  rw [← Nat.mul_add]; congr 1; omega
 have e2:65536 ^ k * s = 65536 ^ k * c + 65536 ^ k * x + 65536 ^ k * y:=by rw [hs,Nat.mul_add,Nat.mul_add]
 omega
theorem Sl.at {w:World} {ao:Option Addr} {cap:Nat} {l:List Nat} (h:Sl w (.slice ao l.length cap) l) {k:Nat} (hk:k < l.length):∃ b off:Nat,ao = some ⟨b,off,none⟩∧l.length≤cap∧w.cell? ⟨b,off + k,none⟩ = some (.int .i64 ((l.getD k 0:Nat):Int)):=by
 obtain ⟨_,ao',cap',hv,hx⟩:=h
 simp only [Value.slice.injEq,true_and] at hv
 obtain ⟨rfl,rfl⟩:=hv
 obtain ⟨h1,b,off,e,_,hc⟩:=hx (by omega)
 exact ⟨b,off,e,h1,hc k hk⟩
end D
end Go.Proofs.YtlfhcbeniimnnabGreat

namespace Go.Proofs.YtlfhcbeniimnnabGreat
open Go.RowKit
namespace D
theorem diff_step {a b p:List Nat} {k c x y:Nat} (hx:x = a.getD k 0) (hy:y = b.getD k 0) (hxb:x < 65536) (hyb:y < 65536) (hc:c≤1) (hp:p.length = k)
  (h:D.val (a.take k) + 65536 ^ k * c = D.val p + D.val (b.take k)) :
  D.val (a.take (k + 1)) + 65536 ^ (k + 1) * (if y + c≤x then 0 else 1) = D.val (p ++ [if y + c≤x then x - y - c else x + 65536 - y - c]) + D.val (b.take (k + 1)):=by
 rw [D.val_snoc,hp,D.take_succ_getD,D.take_succ_getD,← hx,← hy,Nat.pow_succ,Nat.mul_assoc]
 generalize 65536 ^ k = P at *
 split
 ·
  have e:P * x = P * (x - y - c) + P * y + P * c:=by rw [← Nat.mul_add,← Nat.mul_add]; congr 1; omega
  omega
 ·
  have e:P * x + P * (65536 * 1) = P * (x + 65536 - y - c) + P * y + P * c:=by rw [← Nat.mul_add,← Nat.mul_add,← Nat.mul_add]; congr 1; omega
  omega
theorem drop_pred {a b:List Nat} {k:Nat} (hk:0 < k) (hka:k≤a.length) (hl:a.length = b.length) (hd:a.drop k = b.drop k) (h:a.getD (k - 1) 0 = b.getD (k - 1) 0):a.drop (k - 1) = b.drop (k - 1):=by
 rw [List.drop_eq_getElem_cons (l:=a) (i:=k - 1) (by omega),List.drop_eq_getElem_cons (l:=b) (i:=k - 1) (by omega),show k - 1 + 1 = k by omega,hd]
 rw [List.getD_eq_getElem?_getD,List.getD_eq_getElem?_getD,List.getElem?_eq_getElem (by omega),List.getElem?_eq_getElem (by omega)] at h
 simp at h
 rw [h]
end D
end Go.Proofs.YtlfhcbeniimnnabGreat
