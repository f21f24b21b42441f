/- Lemmas. -/
import Derived.Test.YtihnknnddldgiaaGreatDoorGam
import Derived.Test.YtihnknnddldgiaaGreatDoorGab
import Derived.Test.YtihnknnddldgiaaGreatDoorGae
namespace Go.Proofs.YtihnknnddldgiaaGreatDoor
open Go.RowKit
def grp (g:Nat):List UInt8:=(dg g 9).map UInt8.ofNat
theorem get_mem (s:ByteArray) (k:Nat) (hk:k < s.size):s[k] ∈ s.data.toList:=Array.mem_toList_iff.2 (Array.getElem_mem hk)
theorem dig_of {s:ByteArray} (h:∀ k (hk:k < s.size),48<=s[k].toNat/\s[k].toNat<=57):Dig s.data.toList:=by
 intro c hc
 obtain ⟨k,hk,rfl⟩:=List.getElem_of_mem hc
 exact h k (by simpa using hk)
theorem head_get (s:ByteArray) (h:0 < s.size):s.data.toList.head? = some s[0]:=by
 have hk:0 < s.data.toList.length:=by simpa using h
 rw [List.head?_eq_getElem?,List.getElem?_eq_getElem hk]; rfl
theorem list_len (s:ByteArray):s.data.toList.length = s.size:=by rw [Array.length_toList]; rfl
theorem plain_iff (s:ByteArray):Plain s.data.toList ↔ (0 < s.size/\Dig s.data.toList/\∀ h:0 < s.size,s[0].toNat = 48->s.size = 1):=by
 constructor
 ·
  rintro (h | h)
  ·
   have hl:=list_len s
   rw [h] at hl
   refine ⟨by simp at hl; omega,?_,fun _ _ => by simp at hl; omega⟩
   rw [h]; intro c hc; simp at hc; subst hc; decide
  ·
   refine ⟨by rw [<- list_len]; exact List.length_pos_iff.2 h.ne,h.dig,fun h0 e => absurd e (h.head _ (head_get s h0))⟩
 ·
  rintro ⟨h0,h1,h2⟩
  by_cases e:s[0].toNat = 48
  ·
   left
   have hl:=list_len s
   rw [h2 h0 e] at hl
   obtain ⟨c,hc⟩:=List.length_eq_one_iff.1 hl
   have hh:=head_get s h0
   rw [hc] at hh ⊢
   simp at hh
   rw [hh]
   congr 1
   exact UInt8.toNat_inj.1 (by rw [e]; rfl)
  ·
   right
   exact ⟨List.length_pos_iff.1 (by rw [list_len]; exact h0),h1,fun c hc => by rw [head_get s h0] at hc; cases hc; exact e⟩
theorem take_get (s:ByteArray) (k:Nat) (hk:k < s.size):s.data.toList.take (k + 1) = s.data.toList.take k ++ [s[k]]:=by
 rw [List.take_succ_eq_append_getElem (by rw [list_len]; exact hk)]; rfl
def txs (m:Bool) (D:List UInt8):List UInt8:=if m then 45 :: D else D
def Good (L:List UInt8) (m:Bool) (D:List UInt8):Prop:=L = txs m D/\Plain D/\(m = true->NZ D)
theorem size_of {s:ByteArray} {L:List UInt8} (h:s.data.toList = L):s.size = L.length:=by rw [<- list_len,h]
end Go.Proofs.YtihnknnddldgiaaGreatDoor
