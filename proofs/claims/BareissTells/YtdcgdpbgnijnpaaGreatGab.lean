/- Plain mathematics of lists of limbs: the value of a list in base 2^32, its bounds, and that a trimmed list is told by its value. Nothing of Go stands in it. Plain mathematics of lists of digits: the value of a list in base 2^16, its bounds, and that a trimmed list is told by its value. Nothing of Go stands in it. Plain mathematics of the long division, limb by limb from the top, and of a multiple less a multiple. Nothing of Go stands in it. Plain mathematics of Lehmer's strides: several of Euclid's steps in one, told by the top words (Collins' condition). Nothing of Go stands in it. -/

namespace Go.Proofs.YtdcgdpbgnijnpaaGreat
namespace M
def val:List Nat→Nat
 | [] => 0
 | x :: l => x + 4294967296 * val l
def Bd (l:List Nat):Prop:=∀ x ∈ l,x < 4294967296
def Tr (l:List Nat):Prop:=l.length = 0 ∨ l.getD (l.length - 1) 0 ≠ 0
theorem val_append (a b:List Nat):val (a ++ b) = val a + 4294967296 ^ a.length * val b:=by
 induction a with
 | nil => simp [val]
 | cons x l ih => simp only [List.cons_append,val,ih,List.length_cons,Nat.pow_succ]; rw [Nat.mul_add,← Nat.mul_assoc,Nat.mul_comm 4294967296 (4294967296 ^ l.length)]; omega
theorem Bd_nil:Bd []:=fun _ h => by cases h
theorem Bd.snoc {l:List Nat} (h:Bd l) {x:Nat} (hx:x < 4294967296):Bd (l ++ [x]):=by
 intro y hy
 rcases List.mem_append.1 hy with h1 | h1
 ·
  exact h y h1
 ·
  simp at h1; omega
theorem Bd.take {l:List Nat} (h:Bd l) (k:Nat):Bd (l.take k):=fun x hx => h x (List.mem_of_mem_take hx)
theorem Bd.drop {l:List Nat} (h:Bd l) (k:Nat):Bd (l.drop k):=fun x hx => h x (List.mem_of_mem_drop hx)
theorem Bd.getD {l:List Nat} (h:Bd l) (k:Nat):l.getD k 0 < 4294967296:=by
 rw [List.getD_eq_getElem?_getD]
 by_cases hk:k < l.length
 ·
  rw [List.getElem?_eq_getElem hk]; exact h _ (List.getElem_mem hk)
 ·
  rw [List.getElem?_eq_none (by omega)]; decide
theorem val_lt {l:List Nat} (h:Bd l):val l < 4294967296 ^ l.length:=by
 induction l with
 | nil => simp [val]
 | cons x l ih =>
  have h1:=ih (fun y hy => h y (List.mem_cons_of_mem _ hy))
  have h2:=h x (List.mem_cons_self)
  simp only [val,List.length_cons,Nat.pow_succ]
  omega
theorem pow_pos' (k:Nat):0 < 4294967296 ^ k:=Nat.pow_pos (by decide)
theorem take_succ_getD (l:List Nat) (k:Nat):val (l.take (k + 1)) = val (l.take k) + 4294967296 ^ k * l.getD k 0:=by
 rw [List.getD_eq_getElem?_getD]
 by_cases hk:k < l.length
 ·
  rw [List.take_succ_eq_append_getElem hk,val_append,List.getElem?_eq_getElem hk]
  have:(l.take k).length = k:=by rw [List.length_take]; omega
  rw [this]; simp [val]
 ·
  rw [List.getElem?_eq_none (by omega),List.take_of_length_le (by omega),List.take_of_length_le (by omega)]; simp
theorem take_drop_val (l:List Nat) (k:Nat) (hk:k≤l.length):val l = val (l.take k) + 4294967296 ^ k * val (l.drop k):=by
 have:=val_append (l.take k) (l.drop k)
 rw [List.take_append_drop] at this
 rw [this,List.length_take,Nat.min_eq_left hk]
theorem drop_getD (l:List Nat) (k:Nat) (hk:k < l.length):val (l.drop k) = l.getD k 0 + 4294967296 * val (l.drop (k + 1)):=by
 rw [List.drop_eq_getElem_cons hk,val,List.getD_eq_getElem?_getD,List.getElem?_eq_getElem hk]; rfl
theorem val_ge {l:List Nat} (h:Tr l) (h0:l ≠ []):4294967296 ^ (l.length - 1)≤val l:=by
 have hl:0 < l.length:=List.length_pos_iff.2 h0
 rcases h with h | h
 ·
  omega
 rw [take_drop_val l (l.length - 1) (by omega),drop_getD l (l.length - 1) (by omega)]
 have:1≤l.getD (l.length - 1) 0:=by omega
 calc 4294967296 ^ (l.length - 1) = 4294967296 ^ (l.length - 1) * 1:=by omega
  _≤4294967296 ^ (l.length - 1) * (l.getD (l.length - 1) 0 + 4294967296 * val (l.drop (l.length - 1 + 1))):=Nat.mul_le_mul_left _ (by omega)
  _≤_:=Nat.le_add_left _ _
theorem val_pos {l:List Nat} (h:Tr l) (h0:l ≠ []):0 < val l:=Nat.lt_of_lt_of_le (pow_pos' _) (val_ge h h0)
theorem val_zero {l:List Nat} (h:Tr l):val l = 0 ↔ l = []:=by
 constructor
 ·
  intro e
  by_cases h0:l = []
  ·
   exact h0
  ·
   have:=val_pos h h0; omega
 ·
  intro e; rw [e]; rfl
theorem len_le_of_val_le {a b:List Nat} (ha:Tr a) (hb:Bd b) (h:val a≤val b):a.length≤b.length:=by
 by_cases h0:a = []
 ·
  rw [h0]; simp
 ·
  have h1:=val_ge ha h0
  have h2:=val_lt hb
  have h3:4294967296 ^ (a.length - 1) < 4294967296 ^ b.length:=by omega
  have h4:=(Nat.pow_lt_pow_iff_right (a:=4294967296) (by decide)).1 h3
  omega
theorem eq_of_val_len:∀ {a b:List Nat},Bd a→Bd b→a.length = b.length→val a = val b→a = b
 | [],[],_,_,_,_ => rfl
 | [],_ :: _,_,_,h,_ => by simp at h
 | _ :: _,[],_,_,h,_ => by simp at h
 | x :: a,y :: b,ha,hb,hl,hv => by
  simp only [val] at hv
  have hx:=ha x List.mem_cons_self
  have hy:=hb y List.mem_cons_self
  have e1:x = y:=by omega
  have e2:val a = val b:=by omega
  rw [e1,eq_of_val_len (fun z hz => ha z (List.mem_cons_of_mem _ hz)) (fun z hz => hb z (List.mem_cons_of_mem _ hz)) (by simpa using hl) e2]
theorem val_inj {a b:List Nat} (ha:Bd a) (hb:Bd b) (ta:Tr a) (tb:Tr b) (h:val a = val b):a = b:=by
 have h1:=len_le_of_val_le ta hb (by omega)
 have h2:=len_le_of_val_le tb ha (by omega)
 exact eq_of_val_len ha hb (by omega) h
theorem getD_snoc (p:List Nat) (x j:Nat):(p ++ [x]).getD j 0 = if j = p.length then x else p.getD j 0:=by
 simp only [List.getD_eq_getElem?_getD]
 by_cases h:j = p.length
 ·
  rw [if_pos h,h]; simp
 ·
  rw [if_neg h]
  by_cases h2:j < p.length
  ·
   rw [List.getElem?_append_left h2]
  ·
   rw [List.getElem?_eq_none (by simp; omega),List.getElem?_eq_none (by omega)]
theorem val_snoc (p:List Nat) (x:Nat):val (p ++ [x]) = val p + 4294967296 ^ p.length * x:=by
 rw [val_append]; simp [val]
theorem val_drop_zero {l:List Nat} {k:Nat} (h:∀ j,k≤j→l.getD j 0 = 0):val (l.take k) = val l:=by
 by_cases hk:k≤l.length
 ·
  rw [take_drop_val l k hk]
  have:∀ d,∀ m,m + d = l.length→k≤m→val (l.drop m) = 0:=by
   intro d
   induction d with
   | zero => intro m hm _; rw [List.drop_of_length_le (by omega)]; rfl
   | succ d ih => intro m hm hkm; rw [drop_getD l m (by omega),ih (m + 1) (by omega) (by omega),h m hkm]
  rw [this (l.length - k) k (by omega) (Nat.le_refl _)]; simp
 ·
  rw [List.take_of_length_le (by omega)]
def int (neg:Bool) (l:List Nat):Int:=if neg then -(val l:Int) else (val l:Int)
def W72:Nat:=4294967296 ^ 72
theorem natAbs_int (neg:Bool) (l:List Nat):(int neg l).natAbs = val l:=by unfold int; cases neg <;> simp
theorem W72_le {l:List Nat} (ht:Tr l) (hl:72 < l.length):W72≤val l:=by
 have h:=val_ge ht (fun e => by rw [e] at hl; simp at hl)
 exact Nat.le_trans (Nat.pow_le_pow_right (by decide) (by omega)) h
theorem int_mul {m n:Bool} {a b l:List Nat} (h:val l = val a * val b):int (m != n) l = int m a * int n b:=by
 unfold int
 cases m <;> cases n <;> simp [h,Int.mul_neg,Int.neg_mul]
theorem mul_wide {a b:List Nat} (ta:Tr a) (tb:Tr b) (h:72 < a.length + b.length - 1) (ha:a.length≤72) (hb:b.length≤72):W72≤val a * val b:=by
 have h1:=val_ge ta (fun e => by rw [e] at h; simp at h; omega)
 have h2:=val_ge tb (fun e => by rw [e] at h; simp at h; omega)
 have h3:=Nat.mul_le_mul h1 h2
 rw [← Nat.pow_add] at h3
 exact Nat.le_trans (Nat.pow_le_pow_right (by decide) (by omega)) h3
structure Right (neg:Bool) (l:List Nat):Prop where
 bd:Bd l
 tr:Tr l
 len:l.length≤72
 zero:l = []→neg = false
theorem int_inj {m n:Bool} {a b:List Nat} (ha:Right m a) (hb:Right n b) (h:int m a = int n b):m = n∧a = b:=by
 have key:val a = val b:=by unfold int at h; cases m <;> cases n <;> simp at h <;> omega
 have e:=val_inj ha.bd hb.bd ha.tr hb.tr key
 refine ⟨?_,e⟩
 by_cases h0:a = []
 ·
  rw [ha.zero h0,hb.zero (e ▸ h0)]
 ·
  have:=val_pos ha.tr h0
  unfold int at h
  cases m <;> cases n <;> simp at h ⊢ <;> omega
end M
end Go.Proofs.YtdcgdpbgnijnpaaGreat

namespace Go.Proofs.YtdcgdpbgnijnpaaGreat
namespace D
def val:List Nat→Nat
 | [] => 0
 | x :: l => x + 65536 * val l
def Bd (l:List Nat):Prop:=∀ x ∈ l,x < 65536
def Tr (l:List Nat):Prop:=l.length = 0 ∨ l.getD (l.length - 1) 0 ≠ 0
theorem val_append (a b:List Nat):val (a ++ b) = val a + 65536 ^ a.length * val b:=by
 induction a with
 | nil => simp [val]
 | cons x l ih => simp only [List.cons_append,val,ih,List.length_cons,Nat.pow_succ]; rw [Nat.mul_add,← Nat.mul_assoc,Nat.mul_comm 65536 (65536 ^ l.length)]; omega
theorem Bd_nil:Bd []:=fun _ h => by cases h
theorem Bd.snoc {l:List Nat} (h:Bd l) {x:Nat} (hx:x < 65536):Bd (l ++ [x]):=by
 intro y hy
 rcases List.mem_append.1 hy with h1 | h1
 ·
  exact h y h1
 ·
  simp at h1; omega
theorem Bd.take {l:List Nat} (h:Bd l) (k:Nat):Bd (l.take k):=fun x hx => h x (List.mem_of_mem_take hx)
theorem Bd.drop {l:List Nat} (h:Bd l) (k:Nat):Bd (l.drop k):=fun x hx => h x (List.mem_of_mem_drop hx)
theorem Bd.getD {l:List Nat} (h:Bd l) (k:Nat):l.getD k 0 < 65536:=by
 rw [List.getD_eq_getElem?_getD]
 by_cases hk:k < l.length
 ·
  rw [List.getElem?_eq_getElem hk]; exact h _ (List.getElem_mem hk)
 ·
  rw [List.getElem?_eq_none (by omega)]; decide
theorem val_lt {l:List Nat} (h:Bd l):val l < 65536 ^ l.length:=by
 induction l with
 | nil => simp [val]
 | cons x l ih =>
  have h1:=ih (fun y hy => h y (List.mem_cons_of_mem _ hy))
  have h2:=h x (List.mem_cons_self)
  simp only [val,List.length_cons,Nat.pow_succ]
  omega
theorem pow_pos' (k:Nat):0 < 65536 ^ k:=Nat.pow_pos (by decide)
theorem take_succ_getD (l:List Nat) (k:Nat):val (l.take (k + 1)) = val (l.take k) + 65536 ^ k * l.getD k 0:=by
 rw [List.getD_eq_getElem?_getD]
 by_cases hk:k < l.length
 ·
  rw [List.take_succ_eq_append_getElem hk,val_append,List.getElem?_eq_getElem hk]
  have:(l.take k).length = k:=by rw [List.length_take]; omega
  rw [this]; simp [val]
 ·
  rw [List.getElem?_eq_none (by omega),List.take_of_length_le (by omega),List.take_of_length_le (by omega)]; simp
theorem take_drop_val (l:List Nat) (k:Nat) (hk:k≤l.length):val l = val (l.take k) + 65536 ^ k * val (l.drop k):=by
 have:=val_append (l.take k) (l.drop k)
 rw [List.take_append_drop] at this
 rw [this,List.length_take,Nat.min_eq_left hk]
theorem drop_getD (l:List Nat) (k:Nat) (hk:k < l.length):val (l.drop k) = l.getD k 0 + 65536 * val (l.drop (k + 1)):=by
 rw [List.drop_eq_getElem_cons hk,val,List.getD_eq_getElem?_getD,List.getElem?_eq_getElem hk]; rfl
theorem val_ge {l:List Nat} (h:Tr l) (h0:l ≠ []):65536 ^ (l.length - 1)≤val l:=by
 have hl:0 < l.length:=List.length_pos_iff.2 h0
 rcases h with h | h
 ·
  omega
 rw [take_drop_val l (l.length - 1) (by omega),drop_getD l (l.length - 1) (by omega)]
 have:1≤l.getD (l.length - 1) 0:=by omega
 calc 65536 ^ (l.length - 1) = 65536 ^ (l.length - 1) * 1:=by omega
  _≤65536 ^ (l.length - 1) * (l.getD (l.length - 1) 0 + 65536 * val (l.drop (l.length - 1 + 1))):=Nat.mul_le_mul_left _ (by omega)
  _≤_:=Nat.le_add_left _ _
theorem val_pos {l:List Nat} (h:Tr l) (h0:l ≠ []):0 < val l:=Nat.lt_of_lt_of_le (pow_pos' _) (val_ge h h0)
theorem val_zero {l:List Nat} (h:Tr l):val l = 0 ↔ l = []:=by
 constructor
 ·
  intro e
  by_cases h0:l = []
  ·
   exact h0
  ·
   have:=val_pos h h0; omega
 ·
  intro e; rw [e]; rfl
theorem len_le_of_val_le {a b:List Nat} (ha:Tr a) (hb:Bd b) (h:val a≤val b):a.length≤b.length:=by
 by_cases h0:a = []
 ·
  rw [h0]; simp
 ·
  have h1:=val_ge ha h0
  have h2:=val_lt hb
  have h3:65536 ^ (a.length - 1) < 65536 ^ b.length:=by omega
  have h4:=(Nat.pow_lt_pow_iff_right (a:=65536) (by decide)).1 h3
  omega
theorem eq_of_val_len:∀ {a b:List Nat},Bd a→Bd b→a.length = b.length→val a = val b→a = b
 | [],[],_,_,_,_ => rfl
 | [],_ :: _,_,_,h,_ => by simp at h
 | _ :: _,[],_,_,h,_ => by simp at h
 | x :: a,y :: b,ha,hb,hl,hv => by
  simp only [val] at hv
  have hx:=ha x List.mem_cons_self
  have hy:=hb y List.mem_cons_self
  have e1:x = y:=by omega
  have e2:val a = val b:=by omega
  rw [e1,eq_of_val_len (fun z hz => ha z (List.mem_cons_of_mem _ hz)) (fun z hz => hb z (List.mem_cons_of_mem _ hz)) (by simpa using hl) e2]
theorem val_inj {a b:List Nat} (ha:Bd a) (hb:Bd b) (ta:Tr a) (tb:Tr b) (h:val a = val b):a = b:=by
 have h1:=len_le_of_val_le ta hb (by omega)
 have h2:=len_le_of_val_le tb ha (by omega)
 exact eq_of_val_len ha hb (by omega) h
theorem getD_snoc (p:List Nat) (x j:Nat):(p ++ [x]).getD j 0 = if j = p.length then x else p.getD j 0:=by
 simp only [List.getD_eq_getElem?_getD]
 by_cases h:j = p.length
 ·
  rw [if_pos h,h]; simp
 ·
  rw [if_neg h]
  by_cases h2:j < p.length
  ·
   rw [List.getElem?_append_left h2]
  ·
   rw [List.getElem?_eq_none (by simp; omega),List.getElem?_eq_none (by omega)]
theorem val_snoc (p:List Nat) (x:Nat):val (p ++ [x]) = val p + 65536 ^ p.length * x:=by
 rw [val_append]; simp [val]
theorem val_drop_zero {l:List Nat} {k:Nat} (h:∀ j,k≤j→l.getD j 0 = 0):val (l.take k) = val l:=by
 by_cases hk:k≤l.length
 ·
  rw [take_drop_val l k hk]
  have:∀ d,∀ m,m + d = l.length→k≤m→val (l.drop m) = 0:=by
   intro d
   induction d with
   | zero => intro m hm _; rw [List.drop_of_length_le (by omega)]; rfl
   | succ d ih => intro m hm hkm; rw [drop_getD l m (by omega),ih (m + 1) (by omega) (by omega),h m hkm]
  rw [this (l.length - k) k (by omega) (Nat.le_refl _)]; simp
 ·
  rw [List.take_of_length_le (by omega)]
def int (neg:Bool) (l:List Nat):Int:=if neg then -(val l:Int) else (val l:Int)
theorem natAbs_int (neg:Bool) (l:List Nat):(int neg l).natAbs = val l:=by unfold int; cases neg <;> simp
theorem int_mul {m n:Bool} {a b l:List Nat} (h:val l = val a * val b):int (m != n) l = int m a * int n b:=by
 unfold int
 cases m <;> cases n <;> simp [h,Int.mul_neg,Int.neg_mul]
structure Right (neg:Bool) (l:List Nat):Prop where
 bd:Bd l
 tr:Tr l
 zero:l = []→neg = false
theorem len_of_lt {l:List Nat} {k:Nat} (h:Tr l) (hv:val l < 65536 ^ k):l.length≤k:=by
 by_cases h0:l = []
 ·
  rw [h0]; simp
 ·
  have h1:=val_ge h h0
  have h2:65536 ^ (l.length - 1) < 65536 ^ k:=by omega
  have:=(Nat.pow_lt_pow_iff_right (a:=65536) (by decide)).1 h2
  omega
theorem int_inj {m n:Bool} {a b:List Nat} (ha:Right m a) (hb:Right n b) (h:int m a = int n b):m = n∧a = b:=by
 have key:val a = val b:=by unfold int at h; cases m <;> cases n <;> simp at h <;> omega
 have e:=val_inj ha.bd hb.bd ha.tr hb.tr key
 refine ⟨?_,e⟩
 by_cases h0:a = []
 ·
  rw [ha.zero h0,hb.zero (e ▸ h0)]
 ·
  have:=val_pos ha.tr h0
  unfold int at h
  cases m <;> cases n <;> simp at h ⊢ <;> omega
end D
end Go.Proofs.YtdcgdpbgnijnpaaGreat

namespace Go.Proofs.YtdcgdpbgnijnpaaGreat
theorem div_window {R:List Nat} {D i n:Nat} (hb:M.Bd R) (hi:i + n + 1≤R.length) (hD:D < 4294967296 ^ n) (hlt:M.val (R.drop (i + 1)) < D) :
  M.val (R.drop (i + n + 1)) = 0∧M.val (R.drop i) = M.val ((R.drop i).take (n + 1))∧M.val ((R.drop i).take (n + 1)) < 4294967296 * D:=by
 have h1:=M.take_drop_val (R.drop (i + 1)) n (by rw [List.length_drop]; omega)
 rw [List.drop_drop,show i + 1 + n = i + n + 1 by omega] at h1
 have h0:M.val (R.drop (i + n + 1)) = 0:=by
  apply Classical.byContradiction
  intro hn
  have h2:4294967296 ^ n * 1≤4294967296 ^ n * M.val (R.drop (i + n + 1)):=Nat.mul_le_mul_left _ (by omega)
  omega
 have h3:=M.take_drop_val (R.drop i) (n + 1) (by rw [List.length_drop]; omega)
 rw [List.drop_drop,show i + (n + 1) = i + n + 1 by omega,h0,Nat.mul_zero,Nat.add_zero] at h3
 refine ⟨h0,h3,?_⟩
 have h4:=M.drop_getD R i (by omega)
 have h5:=hb.getD i
 omega
theorem drop_set_self (o:List Nat) (i v:Nat) (h:i < o.length):(o.set i v).drop i = v :: o.drop (i + 1):=by
 rw [List.drop_eq_getElem_cons (by rw [List.length_set]; exact h)]
 simp [List.drop_set]
theorem div_round {R W' o:List Nat} {D i n A2 qd:Nat} (hb:M.Bd R) (hi:i + n + 1≤R.length) (hW:W'.length = n + 1) (hio:i < o.length) (hD:D < 4294967296 ^ n) (hlt:M.val (R.drop (i + 1)) < D)
  (hA:A2 = M.val (o.drop (i + 1)) * 4294967296 ^ (i + 1) * D + M.val R)
  (hq:qd = M.val ((R.drop i).take (n + 1)) / D) (hr:M.val W' = M.val ((R.drop i).take (n + 1)) % D) :
  (R.take i ++ W' ++ R.drop (i + n + 1)).length = R.length∧M.val ((R.take i ++ W' ++ R.drop (i + n + 1)).drop i) < D∧A2 = M.val ((o.set i qd).drop i) * 4294967296 ^ i * D + M.val (R.take i ++ W' ++ R.drop (i + n + 1)):=by
 obtain ⟨h0,h1,_⟩:=div_window hb hi hD hlt
 have hti:(R.take i).length = i:=by rw [List.length_take]; omega
 have hv:M.val (W' ++ R.drop (i + n + 1)) = M.val W':=by rw [M.val_append,h0]; simp
 have hd:(R.take i ++ W' ++ R.drop (i + n + 1)).drop i = W' ++ R.drop (i + n + 1):=by
  rw [List.append_assoc,List.drop_append_of_le_length (by omega),List.drop_of_length_le (by omega)]; rfl
 refine ⟨?_,?_,?_⟩
 ·
  simp only [List.length_append,hti,hW,List.length_drop]; omega
 ·
  rw [hd,hv,hr]; exact Nat.mod_lt _ (by omega)
 ·
  rw [drop_set_self _ _ _ hio,M.val,List.append_assoc,M.val_append,hti,hv,hA,M.take_drop_val R i (by omega),h1]
  have e:=Nat.div_add_mod (M.val ((R.drop i).take (n + 1))) D
  rw [← hq,← hr] at e
  generalize M.val ((R.drop i).take (n + 1)) = Wv at *
  rw [← e,Nat.pow_succ]
  generalize 4294967296 ^ i = P at *
  generalize M.val (o.drop (i + 1)) = O at *
  clear e hq hr hA h1 h0 hd hv hti hlt hD hio hW hi hb
  grind
theorem div_end {A B D S Q R:Nat} (hD:D = B * S) (hS:0 < S) (h:A * S = Q * D + R) (hlt:R < D):A = Q * B + R / S∧R / S < B:=by
 have h1:R = (A - Q * B) * S:=by
  rw [Nat.sub_mul,Nat.mul_assoc,← hD]; omega
 have h2:R / S = A - Q * B:=by rw [h1]; exact Nat.mul_div_cancel _ hS
 have h3:Q * B≤A:=by
  apply Nat.le_of_mul_le_mul_right (c:=S) _ hS
  rw [Nat.mul_assoc,← hD]; omega
 refine ⟨by omega,?_⟩
 rw [h2]
 apply Nat.lt_of_mul_lt_mul_right (a:=S)
 rw [← h1,← hD]; exact hlt
theorem lt_of_top {a b:List Nat} {n:Nat} (ha:M.Bd a) (hla:a.length = n + 1) (hlb:b.length = n + 1) (h:a.getD n 0 < b.getD n 0):M.val a < M.val b:=by
 rw [M.take_drop_val a n (by omega),M.take_drop_val b n (by omega),M.drop_getD a n (by omega),M.drop_getD b n (by omega),List.drop_of_length_le (by omega),List.drop_of_length_le (by omega)]
 have h1:=M.val_lt (ha.take n)
 rw [List.length_take,Nat.min_eq_left (by omega)] at h1
 simp only [M.val,Nat.mul_zero,Nat.add_zero]
 have h2:4294967296 ^ n * (a.getD n 0 + 1)≤4294967296 ^ n * b.getD n 0:=Nat.mul_le_mul_left _ (by omega)
 rw [Nat.mul_add] at h2
 omega
theorem shr_limb {x y S T B:Nat} (hS:0 < S) (hB:B = S * T) (hx:x < B):(y * B + x) / S % B * S + x % S = x + B * (y % S):=by
 have e1:(y * B + x) / S = y * T + x / S:=by
  rw [hB,← Nat.mul_assoc,Nat.mul_comm y S,Nat.mul_assoc,Nat.mul_add_div hS]
 have hT:x / S < T:=by rw [Nat.div_lt_iff_lt_mul hS,Nat.mul_comm,← hB]; exact hx
 have e2:y * T + x / S = B * (y / S) + (T * (y % S) + x / S):=by
  have e:=Nat.div_add_mod y S
  generalize y / S = y1 at *
  generalize y % S = y0 at *
  rw [← e,hB]
  grind
 have h3:T * (y % S) + x / S < B:=by
  have h4:T * (y % S + 1)≤T * S:=Nat.mul_le_mul_left _ (Nat.mod_lt _ hS)
  rw [Nat.mul_add,Nat.mul_comm T S,← hB] at h4
  omega
 rw [e1,e2,Nat.mul_add_mod,Nat.mod_eq_of_lt h3,Nat.add_mul]
 have e5:=Nat.div_add_mod x S
 have e6:T * (y % S) * S = B * (y % S):=by rw [hB]; grind
 rw [e6,Nat.mul_comm (x / S) S]
 omega
theorem shr_step {q o:List Nat} {k S T v:Nat} (hk:k < q.length) (hol:o.length = q.length) (hb:M.Bd q) (hS:0 < S) (hB:4294967296 = S * T) (hv:v = (q.getD (k + 1) 0 * 4294967296 + q.getD k 0) / S % 4294967296)
  (h:M.val (o.take k) * S + q.getD 0 0 % S = M.val (q.take k) + 4294967296 ^ k * (q.getD k 0 % S)) :
  M.val ((o.set k v).take (k + 1)) * S + q.getD 0 0 % S = M.val (q.take (k + 1)) + 4294967296 ^ (k + 1) * (q.getD (k + 1) 0 % S):=by
 have h1:=shr_limb (y:=q.getD (k + 1) 0) hS hB (hb.getD k)
 rw [← hv] at h1
 have hset:(o.set k v).getD k 0 = v:=by simp [List.getD_eq_getElem?_getD,hol,hk]
 rw [M.take_succ_getD,M.take_succ_getD,List.take_set_of_le (by omega),hset,Nat.pow_succ]
 generalize q.getD (k + 1) 0 % S = y0 at *
 generalize q.getD k 0 % S = x0 at *
 generalize q.getD k 0 = x at *
 generalize q.getD 0 0 % S = z at *
 generalize 4294967296 ^ k = P at *
 clear hv hB
 generalize M.val (o.take k) = vo at *
 generalize M.val (q.take k) = vq at *
 clear hset hb
 grind
theorem shr_end {V Z S o:Nat} (hS:0 < S) (h:o * S + Z % S = V):o = V / S:=by
 rw [← h,Nat.mul_comm,Nat.mul_add_div hS,Nat.div_eq_of_lt (Nat.mod_lt _ hS)]; rfl
end Go.Proofs.YtdcgdpbgnijnpaaGreat

namespace Go.Proofs.YtdcgdpbgnijnpaaGreat
namespace Leh
def sg (t:Bool):Int:=if t then -1 else 1
theorem sg_not (t:Bool):sg (!t) = - sg t:=by cases t <;> rfl
def e0 (t:Bool) (x0 y0:Nat) (X Y:Int):Int:=- sg t * (x0 * X - y0 * Y)
def e1 (t:Bool) (x1 y1:Nat) (X Y:Int):Int:=sg t * (x1 * X - y1 * Y)
def Tops (A B K:Nat) (X Y:Nat):Prop:=∃ p q:Nat,p < K∧q < K∧X = A * K + p∧Y = B * K + q
structure Far (A B:Nat) (x0 y0 x1 y1:Nat) (t:Bool):Prop where
 some:1≤y0
 chain:∀ K X Y,Tops A B K X Y→e0 t x0 y0 X Y≤Y∧e0 t x0 y0 X Y + e1 t x1 y1 X Y < (X:Int) + Y
structure On (A B:Nat) (a b x0 y0 x1 y1 x2 y2:Nat) (t:Bool):Prop where
 pos:1≤B
 fa:(a:Int) = e1 t x1 y1 A B
 fb:(b:Int) = e0 t x2 y2 A B
 d1:(x1:Int) * y2 - x2 * y1 = sg t
 d0:(x0:Int) * y1 - x1 * y0 = - sg t
 le1:x1≤y1
 le2:x2≤y2
 le01:x0 + x1≤y0 + y1
 c1:y1≤a
 c2:((y0 + y1 + a:Nat):Int)≤e0 t x0 y0 A B
 p2:1≤y2
 p1:1≤y1
 m12:y1≤y2
 m01:y0≤y1
 le0:x0≤y1
 lt:b < a
 how:(x0 = 1∧y0 = 0∧x1 = 0∧y1 = 1∧x2 = 1∧t = true) ∨ Far A B x0 y0 x1 y1 t
def St (A B:Nat) (a b x0 y0 x1 y1 x2 y2:Nat) (t:Bool):Prop :=
 (a = A∧b = B∧x0 = 0∧y0 = 0∧x1 = 1∧y1 = 0∧x2 = 0∧y2 = 1∧t = false) ∨ On A B a b x0 y0 x1 y1 x2 y2 t
theorem sg_cases (t:Bool):sg t = 1 ∨ sg t = -1:=by cases t <;> simp [sg]
theorem near {s:Int} {x y p q K:Nat} (hs:s = 1 ∨ s = -1) (hx:x≤y) (hp:p < K) (hq:q < K):-((y:Int) * K)≤s * ((x:Int) * p - y * q)∧s * ((x:Int) * p - y * q)≤(y:Int) * K:=by
 have h1:x * p≤y * K:=Nat.mul_le_mul hx (by omega)
 have h2:y * q≤y * K:=Nat.mul_le_mul_left _ (by omega)
 have h1':(x:Int) * p≤y * K:=by exact_mod_cast h1
 have h2':(y:Int) * q≤y * K:=by exact_mod_cast h2
 have h3:(0:Int)≤(x:Int) * p:=by exact_mod_cast Nat.zero_le _
 have h4:(0:Int)≤(y:Int) * q:=by exact_mod_cast Nat.zero_le _
 generalize (x:Int) * p = u at *
 generalize (y:Int) * q = v at *
 generalize (y:Int) * K = k at *
 rcases hs with rfl | rfl <;> omega
theorem On.order {A B a b x0 y0 x1 y1 x2 y2:Nat} {t:Bool} (h:On A B a b x0 y0 x1 y1 x2 y2 t) {K X Y:Nat} (ht:Tops A B K X Y):0≤e1 t x1 y1 X Y∧e1 t x1 y1 X Y≤e0 t x0 y0 X Y:=by
 obtain ⟨p,q,hp,hq,rfl,rfl⟩:=ht
 have hc1:=h.c1
 have hc2:=h.c2
 have hfa:=h.fa
 constructor
 ·
  have h1:=(near (sg_cases t) h.le1 hp hq).1
  have h2:e1 t x1 y1 ((A * K + p:Nat):Int) ((B * K + q:Nat):Int) = (a:Int) * K + sg t * ((x1:Int) * p - y1 * q):=by
   rw [hfa]; unfold e1; push_cast; grind
  have h3:(y1:Int) * K≤(a:Int) * K:=by exact_mod_cast Nat.mul_le_mul_right K hc1
  omega
 ·
  have h1:=(near (sg_cases t) h.le01 hp hq).2
  obtain ⟨E,hE⟩:∃ E:Nat,e0 t x0 y0 A B = (E:Int):=Int.eq_ofNat_of_zero_le (by omega)
  have h2:e0 t x0 y0 ((A * K + p:Nat):Int) ((B * K + q:Nat):Int) - e1 t x1 y1 ((A * K + p:Nat):Int) ((B * K + q:Nat):Int) = (E:Int) * K - (a:Int) * K - sg t * (((x0 + x1:Nat):Int) * p - ((y0 + y1:Nat):Int) * q):=by
   rw [hfa,← hE]; unfold e0 e1; push_cast; grind
  rw [hE] at hc2
  have h3:((y0 + y1:Nat):Int) * K + (a:Int) * K≤(E:Int) * K:=by
   have h4:(y0 + y1 + a) * K≤E * K:=Nat.mul_le_mul_right K (by omega)
   rw [Nat.add_mul] at h4
   exact_mod_cast h4
  omega
theorem tops_pos {A B K X Y:Nat} (h:Tops A B K X Y) (hB:1≤B):1≤Y:=by
 obtain ⟨p,q,hp,hq,rfl,rfl⟩:=h
 have:1 * 1≤B * K:=Nat.mul_le_mul hB (by omega)
 omega
theorem On.next {A B a b x0 y0 x1 y1 x2 y2:Nat} {t:Bool} (h:On A B a b x0 y0 x1 y1 x2 y2 t) (hb:y2≤b) (hab:y1 + y2 + b≤a) :
  On A B b (a % b) x1 y1 x2 y2 (x1 + a / b * x2) (y1 + a / b * y2) (!t):=by
 have hb1:1≤b:=by have:=h.p2; omega
 have hq:1≤a / b:=(Nat.one_le_div_iff hb1).2 (by omega)
 have he:=Nat.div_add_mod a b
 have he':(b:Int) * ((a / b:Nat):Int) + ((a % b:Nat):Int) = (a:Int):=by exact_mod_cast he
 have hfa:=h.fa
 have hfb:=h.fb
 have hd1:=h.d1
 have hd0:=h.d0
 have hle1:=h.le1
 have hle2:=h.le2
 have hq2:y2≤a / b * y2:=Nat.le_mul_of_pos_left _ hq
 have hqx:a / b * x2≤a / b * y2:=Nat.mul_le_mul_left _ hle2
 have hns:=sg_not t
 have base:On A B b (a % b) x1 y1 x2 y2 (x1 + a / b * x2) (y1 + a / b * y2) (!t) ∨ ¬ Far A B x1 y1 x2 y2 (!t):=by
  by_cases hf:Far A B x1 y1 x2 y2 (!t)
  ·
   left
   refine ⟨h.pos,?_,?_,?_,?_,hle2,by omega,by omega,hb,?_,by have:=h.p1; omega,h.p2,by omega,h.m12,by have:=h.m12; omega,Nat.mod_lt _ hb1,.inr hf⟩
   ·
    rw [hfb]; unfold e0 e1; rw [hns]
   ·
    unfold e1 at hfa; unfold e0 at hfb ⊢; rw [hns]
    clear he
    generalize a / b = Q at *
    generalize a % b = R at *
    push_cast
    clear hab hb hq hqx hq2 hle1 hle2 hb1 hf h hd1 hd0
    grind
   ·
    rw [hns]; clear he he'; generalize a / b = Q at *; push_cast; clear hab hb hq hqx hq2 hle1 hle2 hb1 hf h hd0 hfa hfb; grind
   ·
    rw [hns]; omega
   ·
    have:e0 (!t) x1 y1 A B = (a:Int):=by rw [hfa]; unfold e0 e1; rw [hns]; grind
    rw [this]; omega
  ·
   exact .inr hf
 rcases base with h9 | h9
 ·
  exact h9
 ·
  exfalso
  apply h9
  refine ⟨h.p1,fun K X Y hT => ?_⟩
  have ho:=h.order hT
  have hY:=tops_pos hT h.pos
  have e1':e0 (!t) x1 y1 X Y = e1 t x1 y1 X Y:=by unfold e0 e1; rw [hns]; grind
  have e2':e1 (!t) x2 y2 X Y = e0 t x2 y2 X Y:=by unfold e0 e1; rw [hns]
  -- what the next pair leads to is not above what the newer one leads to
  have hnext:e0 t x2 y2 X Y≤e1 t x1 y1 X Y:=by
   obtain ⟨p,q,hp,hq',rfl,rfl⟩:=hT
   have h1:=(near (sg_cases t) (show x1 + x2≤y1 + y2 by omega) hp hq').1
   have h2:e1 t x1 y1 ((A * K + p:Nat):Int) ((B * K + q:Nat):Int) - e0 t x2 y2 ((A * K + p:Nat):Int) ((B * K + q:Nat):Int) = (a:Int) * K - (b:Int) * K + sg t * (((x1 + x2:Nat):Int) * p - ((y1 + y2:Nat):Int) * q):=by
    rw [hfa,hfb]; unfold e0 e1; push_cast; grind
   have h3:((y1 + y2:Nat):Int) * K + (b:Int) * K≤(a:Int) * K:=by
    have h4:(y1 + y2 + b) * K≤a * K:=Nat.mul_le_mul_right K hab
    rw [Nat.add_mul] at h4
    exact_mod_cast h4
   omega
  rw [e1',e2']
  rcases h.how with ⟨rfl,rfl,rfl,rfl,rfl,rfl⟩ | hf
  ·
   have h7:e1 true 0 1 X Y = Y:=by simp [e1,sg]
   have h8:e0 true 1 y2 X Y = (X:Int) - y2 * Y:=by simp [e0,sg]
   have h9:(1 * Y:Nat)≤y2 * Y:=Nat.mul_le_mul_right _ h.p2
   have h10:((1 * Y:Nat):Int)≤(y2:Int) * Y:=by exact_mod_cast h9
   rw [h7,h8]
   constructor
   ·
    omega
   ·
    omega
  ·
   have:=hf.chain K X Y hT
   omega
end Leh
end Go.Proofs.YtdcgdpbgnijnpaaGreat
