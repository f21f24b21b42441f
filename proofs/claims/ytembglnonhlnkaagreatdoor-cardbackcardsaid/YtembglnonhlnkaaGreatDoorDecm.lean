/- Decimal texts: the number that digits tell, and that a plain text is told by its number. -/
import Derived.Lib.ItoaNum
namespace Go.Proofs.YtembglnonhlnkaaGreatDoor
def dvF (n:Nat) (l:List UInt8):Nat:=l.foldl (fun n c => n * 10 + (c.toNat - 48)) n
def dv (l:List UInt8):Nat:=dvF 0 l
def Dig (l:List UInt8):Prop:=∀ c ∈ l,48≤c.toNat∧c.toNat≤57
structure NZ (l:List UInt8):Prop where
 ne:l ≠ []
 dig:Dig l
 head:∀ c,l.head? = some c→c.toNat ≠ 48
def Plain (l:List UInt8):Prop:=l = [48] ∨ NZ l
theorem dvF_append (n:Nat) (a b:List UInt8):dvF n (a ++ b) = dvF (dvF n a) b:=by unfold dvF; rw [List.foldl_append]
theorem snocInd {p:List UInt8→Prop} (h0:p []) (h1:∀ l c,p l→p (l ++ [c])):∀ l,p l:=by
 intro l
 rw [← List.reverse_reverse l]
 generalize l.reverse = r
 induction r with
 | nil => exact h0
 | cons x r ih => rw [List.reverse_cons]; exact h1 _ _ ih
theorem dvF_pow (n:Nat) (b:List UInt8):dvF n b = n * 10 ^ b.length + dv b:=by
 revert n
 revert b
 refine snocInd (fun n => by simp [dvF,dv]) ?_
 ·
  intro l c ih n
  have e1:∀ m,dvF m (l ++ [c]) = dvF m l * 10 + (c.toNat - 48):=fun m => by rw [dvF_append]; rfl
  unfold dv
  rw [e1,e1,ih,ih 0,List.length_append,List.length_singleton,Nat.pow_succ]
  simp only [Nat.zero_mul,Nat.zero_add]
  rw [Nat.add_mul,Nat.mul_assoc]; omega
theorem dv_append (a b:List UInt8):dv (a ++ b) = dv a * 10 ^ b.length + dv b:=by unfold dv; rw [dvF_append,dvF_pow]; rfl
theorem dv_snoc (l:List UInt8) (c:UInt8):dv (l ++ [c]) = dv l * 10 + (c.toNat - 48):=by unfold dv; rw [dvF_append]; rfl
theorem Dig.append {a b:List UInt8} (ha:Dig a) (hb:Dig b):Dig (a ++ b):=fun c hc => by
 rcases List.mem_append.1 hc with h | h
 ·
  exact ha c h
 ·
  exact hb c h
theorem NZ.append {a b:List UInt8} (ha:NZ a) (hb:Dig b):NZ (a ++ b):=by
 refine ⟨fun e => ha.ne (List.append_eq_nil_iff.1 e).1,ha.dig.append hb,fun c hc => ?_⟩
 obtain ⟨x,l,rfl⟩:=List.exists_cons_of_ne_nil ha.ne
 exact ha.head c (by simpa using hc)
theorem ofNat_digit {d:Nat} (h:d < 10):(UInt8.ofNat (48 + d)).toNat = 48 + d:=by
 rw [UInt8.toNat_ofNat']; omega
theorem dec_dig (u:Nat):Dig (Lib.decDigits u):=by
 induction u using Nat.strongRecOn with
 | _ u ih =>
  rw [Lib.decDigits]
  split
  ·
   intro c hc
   rw [List.mem_singleton] at hc
   subst hc
   rw [ofNat_digit (by assumption)]; omega
  ·
   refine (ih (u / 10) (by omega)).append (fun c hc => ?_)
   rw [List.mem_singleton] at hc
   subst hc
   rw [ofNat_digit (by omega)]; omega
theorem dec_dv (u:Nat):dv (Lib.decDigits u) = u:=by
 induction u using Nat.strongRecOn with
 | _ u ih =>
  rw [Lib.decDigits]
  split
  ·
   show 0 * 10 + _ = _
   rw [ofNat_digit (by assumption)]; omega
  ·
   rw [dv_snoc,ih (u / 10) (by omega),ofNat_digit (by omega)]; omega
theorem dec_nz (u:Nat) (h:0 < u):NZ (Lib.decDigits u):=by
 induction u using Nat.strongRecOn with
 | _ u ih =>
  rw [Lib.decDigits]
  split
  ·
   refine ⟨by simp,?_,fun c hc => ?_⟩
   ·
    intro c hc
    rw [List.mem_singleton] at hc
    subst hc
    rw [ofNat_digit (by assumption)]; omega
   ·
    cases hc
    rw [ofNat_digit (by assumption)]; omega
  ·
   refine (ih (u / 10) (by omega) (by omega)).append (fun c hc => ?_)
   rw [List.mem_singleton] at hc
   subst hc
   rw [ofNat_digit (by omega)]; omega
theorem toNat_back {c:UInt8} (h1:48≤c.toNat):UInt8.ofNat (48 + (c.toNat - 48)) = c:=by
 rw [show 48 + (c.toNat - 48) = c.toNat by omega]; simp
theorem NZ.pos {l:List UInt8} (h:NZ l):0 < dv l:=by
 obtain ⟨x,t,rfl⟩:=List.exists_cons_of_ne_nil h.ne
 have h1:=h.head x rfl
 have h2:=h.dig x (by simp)
 have e:dv (x :: t) = dv [x] * 10 ^ t.length + dv t:=dv_append [x] t
 have e2:dv [x] = x.toNat - 48:=by show 0 * 10 + _ = _; omega
 rw [e,e2]
 have h3:0 < 10 ^ t.length:=Nat.pow_pos (by decide)
 have h4:=Nat.mul_le_mul (show 1≤x.toNat - 48 by omega) h3
 omega
theorem nz_dec':∀ l:List UInt8,NZ l→l = Lib.decDigits (dv l):=by
 refine snocInd (p:=fun l => NZ l→l = Lib.decDigits (dv l)) (fun h => absurd rfl h.ne) ?_
 ·
  intro l c ih h
  have hc:=h.dig c (by simp)
  by_cases h0:l = []
  ·
   subst h0
   have e2:dv ([] ++ [c]) = c.toNat - 48:=by rw [dv_snoc]; show 0 * 10 + _ = _; omega
   rw [e2,Lib.decDigits,dif_pos (by omega),toNat_back hc.1]; rfl
  ·
   have hl:NZ l:=⟨h0,fun x hx => h.dig x (by simp [hx]),fun x hx => by
    obtain ⟨y,t,rfl⟩:=List.exists_cons_of_ne_nil h0
    exact h.head x (by simpa using hx)⟩
   have hp:=hl.pos
   have e:=dv_snoc l c
   rw [Lib.decDigits,dif_neg (by omega)]
   have e1:dv (l ++ [c]) / 10 = dv l:=by omega
   have e2:dv (l ++ [c]) % 10 = c.toNat - 48:=by omega
   rw [e1,e2,← ih hl,toNat_back hc.1]
theorem nz_dec {l:List UInt8} (h:NZ l):l = Lib.decDigits (dv l):=nz_dec' l h
theorem plain_dec {l:List UInt8} (h:Plain l):l = Lib.decDigits (dv l):=by
 rcases h with rfl | h
 ·
  have:dv [48] = 0:=rfl
  rw [this,Lib.decDigits,dif_pos (by omega)]; rfl
 ·
  exact nz_dec h
end Go.Proofs.YtembglnonhlnkaaGreatDoor
