/- A determinant by fractions, row by row: the mathematics (pure). How long the numbers get: a determinant by fractions (pure). A square of the reference's fractions in memory, cell by cell: stored into, rows swapped. Rows of fractions that are made: lists of one's own that grow. What holds while a determinant is worked out by fractions, in memory. -/
import Derived.Test.YtdcfammglpebaaaGreatGax
import Derived.Test.YtdcfammglpebaaaGreatGaa
import Derived.Test.YtdcfammglpebaaaGreatGaw
import Derived.Test.YtdcfammglpebaaaGreatGay
import Derived.Test.YtdcfammglpebaaaGreatGad
import Derived.Test.YtdcfammglpebaaaGreatGak
namespace Go.Proofs.YtdcfammglpebaaaGreat
open Ba (stg lastP pivs Fits cast tr2 stg_snoc pivs_snoc stg_exact last_ne prL norm1 norm2)
namespace Bp
def psOf (f:Nat→Nat) (k:Nat):List (Nat × Nat):=(List.range k).map fun a => (f a,a)
theorem psOf_len (f:Nat→Nat) (k:Nat):(psOf f k).length = k:=by unfold psOf; simp
theorem psOf_succ (f:Nat→Nat) (k:Nat):psOf f (k + 1) = psOf f k ++ [(f k,k)]:=by unfold psOf; rw [List.range_succ,List.map_append]; rfl
theorem psOf_congr {f g:Nat→Nat} {k:Nat} (h:∀ a,a < k→f a = g a):psOf f k = psOf g k:=by
 unfold psOf
 exact List.map_congr_left fun a ha => by rw [h a (List.mem_range.1 ha)]
theorem psOf_get (f:Nat→Nat) {k a:Nat} (h:a < k):Ba.rowAt (psOf f k) a = f a∧Ba.colAt (psOf f k) a = a:=by
 unfold Ba.rowAt Ba.colAt
 have:(psOf f k).getD a (0,0) = (f a,a):=by
  rw [List.getD_eq_getElem?_getD]
  unfold psOf
  rw [List.getElem?_map,List.getElem?_range h]
  rfl
 rw [this]
 exact ⟨rfl,rfl⟩
structure DtI (n:Nat) (M:Nat→Nat→Int) (k:Nat) (f:Nat→Nat) (s:Int):Prop where
 le:k≤n
 lt:∀ a,a < n→f a < n
 inj:∀ a b,a < n→b < n→f a = f b→a = b
 piv:pivs M 1 (psOf f k)
 sgn:s = 1 ∨ s = -1
 det:Ba.det n (cast M) = (s:Rat) * Ba.det n (fun a b => cast M (f a) b)
section
variable {n k:Nat} {M:Nat→Nat→Int} {f:Nat→Nat} {s:Int}
theorem DtI.start (n:Nat) (M:Nat→Nat→Int):DtI n M 0 id 1:=⟨Nat.zero_le _,fun _ h => h,fun _ _ _ _ h => h,trivial,.inl rfl,by
 show _ = ((1:Int):Rat) * Ba.det n (cast M)
 rw [show ((1:Int):Rat) = 1 from rfl,Rat.one_mul]⟩
theorem DtI.fits (h:DtI n M k f s):Fits n M (psOf f k):=by
 have hle:=h.le
 refine ⟨h.piv,?_,?_,fun p hp => ?_⟩
 ·
  unfold psOf
  rw [List.map_map]
  refine List.pairwise_map.2 (List.nodup_range.imp_of_mem fun {a b} ha hb hne e => hne ?_)
  have ha:=List.mem_range.1 ha
  have hb:=List.mem_range.1 hb
  exact h.inj a b (by omega) (by omega) e
 ·
  unfold psOf
  rw [List.map_map]
  have:(Prod.snd ∘ fun a => (f a,a)) = id:=rfl
  rw [this,List.map_id]
  exact List.nodup_range
 ·
  unfold psOf at hp
  obtain ⟨a,ha,rfl⟩:=List.mem_map.1 hp
  have:=List.mem_range.1 ha
  exact ⟨h.lt a (by omega),by show a < n; omega⟩
theorem DtI.swap (h:DtI n M k f s) {q:Nat} (hq:k≤q) (hqn:q < n) (hne:q ≠ k):DtI n M k (fun a => f (tr2 q k a)) (-s):=by
 have hk:k < n:=by omega
 have e:psOf (fun a => f (tr2 q k a)) k = psOf f k:=psOf_congr fun a ha => by
  have:tr2 q k a = a:=by unfold tr2; rw [if_neg (by omega),if_neg (by omega)]
  rw [this]
 refine ⟨h.le,fun a ha => h.lt _ (tr2_lt hqn hk ha),fun a b ha hb e => ?_,by rw [e]; exact h.piv,?_,?_⟩
 ·
  have:=h.inj _ _ (tr2_lt hqn hk ha) (tr2_lt hqn hk hb) e
  have:=congrArg (tr2 q k) this
  rw [tr2_tr2,tr2_tr2] at this
  exact this
 ·
  rcases h.sgn with rfl | rfl
  ·
   exact .inr rfl
  ·
   exact .inl rfl
 ·
  have h1:=Ba.det_rows (A:=fun a b => cast M (f a) b) hqn hk hne
  have h1:Ba.det n (fun a b => cast M (f (tr2 q k a)) b) = -Ba.det n (fun a b => cast M (f a) b):=h1
  rw [h1,h.det,Rat.intCast_neg]
  grind
theorem DtI.next (h:DtI n M k f s) (hk:k < n) (hp:stg M (psOf f k) (f k) k ≠ 0):DtI n M (k + 1) f s :=
 ⟨hk,h.lt,h.inj,by rw [psOf_succ]; exact (pivs_snoc _ _ M 1).2 ⟨h.piv,hp⟩,h.sgn,h.det⟩
theorem DtI.parts (h:DtI n M k f s):Ba.det n (cast M) = (s:Rat) * ((lastP M (psOf f k):Rat) * Ba.det (n - k) (fun a b => Ba.gauss (cast M) (psOf f k) (f (k + a)) (k + b))):=by
 rw [h.det]
 have h1:=Ba.det_pivots (psOf f k) (cast M) f id (n - k) (Ba.stg_bar h.piv).ok (fun a ha => by
  rw [psOf_len] at ha
  have:=psOf_get f ha
  exact ⟨this.1.symm,this.2.symm⟩)
 rw [psOf_len,show k + (n - k) = n by have:=h.le; omega] at h1
 have h2:Ba.det n (fun a b => cast M (f a) (id b)) = Ba.det n (fun a b => cast M (f a) b):=rfl
 rw [h2] at h1
 rw [h1,← Ba.last_prod h.piv]
 rfl
theorem DtI.fin (h:DtI n M n f s):Ba.det n (cast M) = ((s * lastP M (psOf f n):Int):Rat):=by
 rw [h.parts,Nat.sub_self,Rat.intCast_mul]
 show _ * (_ * 1) = _
 rw [Rat.mul_one]
theorem DtI.zero (h:DtI n M k f s) (hk:k < n) (hz:∀ i,k≤i→i < n→stg M (psOf f k) (f i) k = 0):Ba.det n (cast M) = 0:=by
 rw [h.parts]
 obtain ⟨m,hm⟩:∃ m,n - k = m + 1:=⟨n - k - 1,by omega⟩
 rw [hm,Ba.det_null_col fun i hi => ?_]
 ·
  grind
 ·
  show Ba.gauss (cast M) (psOf f k) (f (k + i)) k = 0
  have h1:=Ba.minor_gauss (psOf f k) (M:=cast M) (f (k + i)) k (Ba.stg_bar h.piv).ok
  rw [← Ba.stg_minor h.piv,hz (k + i) (by omega) (by omega)] at h1
  have h2:=Ba.prodP_ne (psOf f k) (Ba.stg_bar h.piv).ok
  rcases Rat.mul_eq_zero.1 h1.symm with h3 | h3
  ·
   exact absurd h3 h2
  ·
   exact h3
end
/- The fractions. -/
open F (Low)
theorem low_ratio {X Y X' Y' N D:Int} (h:Low X Y N D) (hY:Y ≠ 0) (e:X * Y' = X' * Y):Low X' Y' N D:=by
 refine ⟨h.pos,h.low,Int.eq_of_mul_eq_mul_right hY ?_⟩
 have h1:=h.eq
 calc N * Y' * Y = N * Y * Y':=by rw [Int.mul_assoc,Int.mul_comm Y' Y,← Int.mul_assoc]
  _ = X * D * Y':=by rw [h1]
  _ = X * Y' * D:=by rw [Int.mul_assoc,Int.mul_comm D Y',← Int.mul_assoc]
  _ = X' * Y * D:=by rw [e]
  _ = X' * D * Y:=by rw [Int.mul_assoc,Int.mul_comm Y D,← Int.mul_assoc]
theorem low_over {X Y X' Y' N D N' D' N5 D5:Int} (h:Low X Y N D) (h':Low X' Y' N' D') (hX':X' ≠ 0) (h5:Low (N * D') (D * N') N5 D5):Low (X * Y') (Y * X') N5 D5:=by
 have e1:=h.eq
 have e2:=h'.eq
 have p1:=h.pos
 have p2:=h'.pos
 have hN':N' ≠ 0:=fun e => by
  rw [e,Int.zero_mul] at e2
  rcases Int.mul_eq_zero.1 e2.symm with h | h
  ·
   exact hX' h
  ·
   omega
 refine low_ratio h5 (Int.mul_ne_zero (by omega) hN') ?_
 grind
theorem low_times {X Y X' Y' N D N' D' N5 D5:Int} (h:Low X Y N D) (h':Low X' Y' N' D') (h5:Low (N * N') (D * D') N5 D5):Low (X * X') (Y * Y') N5 D5:=by
 have e1:=h.eq
 have e2:=h'.eq
 have p1:=h.pos
 have p2:=h'.pos
 refine low_ratio h5 (Int.mul_ne_zero (by omega) (by omega)) ?_
 grind
theorem low_less {X Y X' Y' N D N' D' N5 D5:Int} (h:Low X Y N D) (h':Low X' Y' N' D') (h5:Low (N * D' + -N' * D) (D * D') N5 D5):Low (X * Y' - X' * Y) (Y * Y') N5 D5:=by
 have e1:=h.eq
 have e2:=h'.eq
 have p1:=h.pos
 have p2:=h'.pos
 refine low_ratio h5 (Int.mul_ne_zero (by omega) (by omega)) ?_
 grind
theorem low_whole {X Y N D z:Int} (h:Low X Y N D) (hY:Y ≠ 0) (e:X = z * Y):N = z∧D = 1:=by
 have h1:Low X Y z 1:=⟨by decide,by show Nat.gcd _ 1 = 1; exact Nat.gcd_one_right _,by rw [e,Int.mul_one]⟩
 exact h.one h1 hY
theorem low_int (z:Int):Low z 1 z 1:=⟨by decide,by show Nat.gcd _ 1 = 1; exact Nat.gcd_one_right _,rfl⟩
theorem low_zero {X Y N D:Int} (h:Low X Y N D) (hY:Y ≠ 0):N = 0 ↔ X = 0:=by
 have e:=h.eq
 have p:=h.pos
 constructor
 ·
  intro h0
  rw [h0,Int.zero_mul] at e
  rcases Int.mul_eq_zero.1 e.symm with h | h
  ·
   exact h
  ·
   omega
 ·
  intro h0
  rw [h0,Int.zero_mul] at e
  rcases Int.mul_eq_zero.1 e with h | h
  ·
   exact h
  ·
   exact absurd h hY
theorem low_le {X Y N D B:Int} (h:Low X Y N D) (hY:Y ≠ 0) (hX:X.natAbs < B.toNat) (hYB:Y.natAbs < B.toNat):N.natAbs < B.toNat∧D.natAbs < B.toNat:=by
 have e:N.natAbs * Y.natAbs = X.natAbs * D.natAbs:=by rw [← Int.natAbs_mul,← Int.natAbs_mul,h.eq]
 have p:=h.pos
 have hc:Nat.Coprime N.natAbs D.natAbs:=h.low
 have d1:N.natAbs ∣ X.natAbs:=hc.dvd_of_dvd_mul_right ⟨Y.natAbs,e.symm⟩
 have d2:D.natAbs ∣ Y.natAbs:=hc.symm.dvd_of_dvd_mul_left ⟨X.natAbs,by rw [e,Nat.mul_comm]⟩
 constructor
 ·
  by_cases h0:X = 0
  ·
   rw [(low_zero h hY).2 h0]
   show 0 < B.toNat
   omega
  ·
   exact Nat.lt_of_le_of_lt (Nat.le_of_dvd (by omega) d1) hX
 ·
  exact Nat.lt_of_le_of_lt (Nat.le_of_dvd (by omega) d2) hYB
theorem elim_step {M:Nat→Nat→Int} {ps:List (Nat × Nat)} {r c i j:Nat} {Nf Df N D N2 D2 Nt Dt N5 D5:Int} (h:pivs M 1 ps) (hp:stg M ps r c ≠ 0) (hf:Low (stg M ps i c) (stg M ps r c) Nf Df) (hij:Low (stg M ps i j) (lastP M ps) N D) (hrj:Low (stg M ps r j) (lastP M ps) N2 D2)
  (ht:Low (Nf * N2) (Df * D2) Nt Dt) (h5:Low (N * Dt + -Nt * D) (D * Dt) N5 D5):Low (stg M (ps ++ [(r,c)]) i j) (stg M ps r c) N5 D5:=by
 have hl:=last_ne h
 have hx:=stg_exact h hp i j
 have h1:=low_times hf hrj ht
 have h2:=low_less hij h1 h5
 refine low_ratio h2 (Int.mul_ne_zero hl (Int.mul_ne_zero hp hl)) ?_
 grind
theorem elim_none {M:Nat→Nat→Int} {ps:List (Nat × Nat)} {r c i j:Nat} {N D:Int} (h:pivs M 1 ps) (hp:stg M ps r c ≠ 0) (h0:stg M ps i c = 0) (hij:Low (stg M ps i j) (lastP M ps) N D):Low (stg M (ps ++ [(r,c)]) i j) (stg M ps r c) N D:=by
 have hx:=stg_exact h hp i j
 refine low_ratio hij (last_ne h) ?_
 rw [h0] at hx
 grind
end Bp
end Go.Proofs.YtdcfammglpebaaaGreat

namespace Go.Proofs.YtdcfammglpebaaaGreat
open Ba (stg lastP pivs Fits cast tr2 prL norm1 norm2 ext ext_stg)
namespace Bp
theorem pow_one (e:Nat):1≤65536 ^ e:=Nat.pow_pos (by decide)
theorem pow_one_lt {e:Nat} (h:0 < e):1 < 65536 ^ e:=Nat.one_lt_pow (Nat.pos_iff_ne_zero.1 h) (by decide)
theorem pow3 (a b c:Nat) (h:c = 1 + (a + b)):65536 ^ c = 65536 * (65536 ^ a * 65536 ^ b):=by subst h; rw [Nat.pow_add,Nat.pow_add,Nat.pow_one]
theorem pow_fin (a b n:Nat) (h:a * n < b + b):(65536 ^ a) ^ n < 65536 ^ b * 65536 ^ b:=by rw [← Nat.pow_mul,← Nat.pow_add]; exact Nat.pow_lt_pow_right (by decide) h
theorem sqs_le {f:Nat→Int} {n:Nat} {B:Int} (h:∀ k,k < n→f k * f k≤B):0≤sqs f n∧sqs f n≤(n:Int) * B:=by
 induction n with
 | zero => exact ⟨Int.le_refl _,by simp [sqs]⟩
 | succ n ih =>
  have h1:=ih fun k hk => h k (by omega)
  have h2:=h n (by omega)
  have h3:0≤f n * f n:=by
   rw [← Int.natAbs_mul_self']
   exact Int.mul_nonneg (Int.natCast_nonneg _) (Int.natCast_nonneg _)
  show 0≤sqs f n + f n * f n∧sqs f n + f n * f n≤((n + 1:Nat):Int) * B
  have e:((n + 1:Nat):Int) * B = (n:Int) * B + B:=by rw [Int.natCast_add,Int.add_mul]; simp
  omega
theorem prZ_le {g:Nat→Int} {n:Nat} {G:Nat} (h:∀ i,i < n→1≤g i∧g i≤(G:Int)):1≤prZ g n∧prZ g n≤((G ^ n:Nat):Int):=by
 induction n with
 | zero => exact ⟨Int.le_refl _,Int.le_refl _⟩
 | succ n ih =>
  have h1:=ih fun k hk => h k (by omega)
  have h2:=h n (by omega)
  show 1≤prZ g n * g n∧prZ g n * g n≤((G ^ (n + 1):Nat):Int)
  constructor
  ·
   have:=Int.mul_le_mul h1.1 h2.1 (by decide) (by omega)
   simpa using this
  ·
   rw [Nat.pow_succ,Int.natCast_mul]
   exact Int.mul_le_mul h1.2 h2.2 (by omega) (Int.natCast_nonneg _)
def Few (n:Nat) (M:Nat→Nat→Int):Prop:=∀ i j,i < n→j < n→(M i j).natAbs < 65536 ^ 144
theorem few_norm {n:Nat} {M:Nat→Nat→Int} (h:Few n M) (hn:n≤48):prL (norm1 n M fun _ => 0) (List.range n) < (((65536 ^ 7000 * 65536 ^ 7000:Nat):Int):Rat):=by
 obtain ⟨E,hE⟩:∃ E:Nat,E = 65536 ^ 144:=⟨_,rfl⟩
 obtain ⟨G,hG⟩:∃ G:Nat,G = 65536 ^ 289:=⟨_,rfl⟩
 have hEG:48 * (E * E)≤G:=by
  rw [hE,hG,pow3 144 144 289 rfl]
  exact Nat.mul_le_mul_right _ (by decide)
 have hG1:1≤G:=by rw [hG]; exact pow_one 289
 have h1:∀ i,i < n→1≤nz1 n M (fun _ => 0) i∧nz1 n M (fun _ => 0) i≤(G:Int):=fun i hi => by
  have h2:=sqs_le (f:=M i) (n:=n) (B:=((E * E:Nat):Int)) fun k hk => by
   have h3:=h i k hi hk
   rw [← hE] at h3
   rw [← Int.natAbs_mul_self']
   rw [← Int.natCast_mul]
   exact Int.ofNat_le.2 (Nat.mul_le_mul (Nat.le_of_lt h3) (Nat.le_of_lt h3))
  have h4:(n:Int) * ((E * E:Nat):Int)≤(G:Int):=by
   rw [← Int.natCast_mul]
   exact Int.ofNat_le.2 (Nat.le_trans (Nat.mul_le_mul_right _ hn) hEG)
  unfold nz1
  have e:nz2 n M (fun _ => 0) i = sqs (M i) n:=by unfold nz2; simp
  rw [e]
  split <;> omega
 have h2:=(prZ_le h1).2
 rw [← prZ_rat]
 refine Rat.intCast_lt_intCast.2 (Int.lt_of_le_of_lt h2 (Int.ofNat_lt.2 ?_))
 rw [hG]
 exact pow_fin 289 7000 n (by omega)
theorem sq_lt {z:Int} {B:Nat} {P:Rat} (h:(z:Rat) * (z:Rat)≤P) (hP:P < (((B * B:Nat):Int):Rat)):z.natAbs < B:=by
 have h1:((z * z:Int):Rat) < (((B * B:Nat):Int):Rat):=by
  rw [Rat.intCast_mul]
  grind
 have h2:=Rat.intCast_lt_intCast.1 h1
 rw [← Int.natAbs_mul_self',← Int.natCast_mul] at h2
 have h3:=Int.ofNat_lt.1 h2
 exact Nat.lt_of_not_le fun h4 => absurd (Nat.mul_le_mul h4 h4) (by omega)
section
variable {n k:Nat} {M:Nat→Nat→Int} {f:Nat→Nat} {s:Int}
theorem DtI.small (h:DtI n M k f s) (hf:Few n M) (hn:n≤48) {i j:Nat} (hi:k≤i) (hin:i < n) (hj:k≤j) (hjn:j < n):(stg M (psOf f k) (f i) j).natAbs < 65536 ^ 7000:=by
 have hF:=h.fits
 have hcol:∀ p ∈ psOf f k,p.2 ≠ n:=fun p hp => by have:=(hF.lt p hp).2; omega
 have h4:=Ba.stg_bound (b:=fun _ => 0) hF (h.lt i hin) (Nat.le_of_lt hjn) (fun hm => by
  unfold psOf at hm
  rw [List.map_map] at hm
  obtain ⟨a,ha,e⟩:=List.mem_map.1 hm
  have ha:=List.mem_range.1 ha
  have:=h.inj a i (by omega) hin e
  omega) (fun hm => by
  unfold psOf at hm
  rw [List.map_map] at hm
  obtain ⟨a,ha,e⟩:=List.mem_map.1 hm
  have ha:=List.mem_range.1 ha
  have e:a = j:=e
  omega)
 rw [← (ext_stg hcol).1 (f i) j (by omega)] at h4
 exact sq_lt h4 (few_norm hf hn)
theorem DtI.last (h:DtI n M k f s) (hf:Few n M) (hn:n≤48):(lastP M (psOf f k)).natAbs < 65536 ^ 7000:=by
 have h1:=Ba.last_prod h.piv
 by_cases h0:k = 0
 ·
  subst h0
  show (1:Int).natAbs < _
  exact Nat.lt_of_le_of_lt (Nat.le_of_eq (rfl:(1:Int).natAbs = 1)) (pow_one_lt (e:=7000) (by decide))
 ·
  obtain ⟨m,rfl⟩:∃ m,k = m + 1:=⟨k - 1,by omega⟩
  have hle:=h.le
  have hp:=h.piv
  rw [psOf_succ] at hp ⊢
  rw [(Ba.stg_snoc M (psOf f m) (f m) m).2]
  have hpre:DtI n M m f s:=⟨by omega,h.lt,h.inj,((Ba.pivs_snoc _ _ M 1).1 hp).1,h.sgn,h.det⟩
  exact hpre.small hf hn (Nat.le_refl _) (by omega) (Nat.le_refl _) (by omega)
end
theorem low_nat {X Y N Q:Int} {B:Nat} (h:F.Low X Y N Q) (hY:Y ≠ 0) (hX:X.natAbs < B) (hB:Y.natAbs < B):N.natAbs < B∧Q.natAbs < B:=by
 have:=low_le (B:=(B:Int)) h hY (by rw [Int.toNat_natCast]; exact hX) (by rw [Int.toNat_natCast]; exact hB)
 rw [Int.toNat_natCast] at this
 exact this
theorem nis_len {w:World} {s:Bool} {ao:Option Addr} {k cap L:Nat} {z:Int} (h:D.NIs w s (.slice ao k cap) z) (hz:z.natAbs < 65536 ^ L):k≤L:=by
 obtain ⟨l,hs,hr,rfl⟩:=h
 have e:=dsl_len hs
 have hv:(D.int s l).natAbs = D.val l:=by unfold D.int; cases s <;> simp
 rw [hv] at hz
 rw [e]
 exact D.len_of_lt hr.tr hz
theorem nis_abs {w:World} {s:Bool} {ao:Option Addr} {k cap L:Nat} {z:Int} (h:D.NIs w s (.slice ao k cap) z) (hk:k≤L):z.natAbs < 65536 ^ L:=by
 obtain ⟨l,hs,hr,rfl⟩:=h
 have e:=dsl_len hs
 have hv:(D.int s l).natAbs = D.val l:=by unfold D.int; cases s <;> simp
 rw [hv]
 exact Nat.lt_of_lt_of_le (D.val_lt hs.bd) (Nat.pow_le_pow_right (by decide) (by omega))
theorem few_of {w:World} {n:Nat} {M:Nat→Nat→Int} {ao:Option Addr} {cap:Nat} (h:MN 144 n M w (.slice ao n cap) n):Few n M:=fun i j hi hj => by
 obtain ⟨b,off,ra,rc,_,_,_,hr⟩:=h.at hi
 obtain ⟨_,_,s,so,sk,sc,_,_,_,_,hd,hk⟩:=hr.at hj
 exact nis_abs hd.1 hk
end Bp
end Go.Proofs.YtdcfammglpebaaaGreat

namespace Go.Proofs.YtdcfammglpebaaaGreat
open Go.RowKit
open V (RowL RowL.alloc RowL.lt RowL.cell RowL.fz RowL.kept RowL.block RowL.set RowL.far)
open Sp (hid own_kept own_keptK own_shape info_parts)
open Ba (tr2)
namespace Bp
theorem sc_same {w:World} {a:Addr} {u v:Value} (h:w.cell? a = some u):(w.setCell a v).cell? a = some v:=World.cell?_setCell_same _ _ _ h
theorem sc_other {w:World} {a b:Addr} {v:Value} (h:a ≠ b):(w.setCell a v).cell? b = w.cell? b:=World.cell?_setCell_other _ _ _ _ h
def NoInt (u:Value):Prop:=∀ k z,u ≠ .int k z
theorem noint_bool (b:Bool):NoInt (.bool b):=fun _ _ h => by cases h
theorem noint_slice (a:Option Addr) (n c:Nat):NoInt (.slice a n c):=fun _ _ h => by cases h
def NX (w w':World):Prop:=∀ s v z,D.NIs w s v z→D.NIs w' s v z
theorem NX.refl (w:World):NX w w:=fun _ _ _ h => h
theorem NX.trans {a b c:World} (h:NX a b) (k:NX b c):NX a c:=fun _ _ _ x => k _ _ _ (h _ _ _ x)
theorem NX.kept {a b:World} (k:Kept a b):NX a b:=fun _ _ _ x => x.kept k
theorem NX.set {w:World} {p:Addr} {u:Value} (h:w.cell? p = some u) (hu:NoInt u) (x:Value):NX w (w.setCell p x):=by
  rintro s v z ⟨l,⟨hb,ao,cap,rfl,hx⟩,hr,hi⟩
  refine ⟨l,⟨hb,ao,cap,rfl,fun h0 => ?_⟩,hr,hi⟩
  obtain ⟨h1,b,off,rfl,hlt,hc⟩:=hx h0
  refine ⟨h1,b,off,rfl,by simpa [World.setCell] using hlt,fun j hj => ?_⟩
  rw [sc_other (fun e => ?_)]
  · exact hc j hj
  · have:=hc j hj
    rw [← e,h] at this
    cases this
    exact hu _ _ rfl
def four (s:Bool) (v:Value) (t:Bool) (u:Value):Nat→Value
  | 0 => .bool s
  | 1 => v
  | 2 => .bool t
  | _ => u
def put4' (w:World) (b o:Nat) (s:Bool) (v:Value) (t:Bool) (u:Value):World:=(((w.setCell ⟨b,o,none⟩ (.bool s)).setCell ⟨b,o + 1,none⟩ v).setCell ⟨b,o + 2,none⟩ (.bool t)).setCell ⟨b,o + 3,none⟩ u
def FC (w:World) (b o:Nat) (N Q:Int):Prop:=∃ s ao k c t bo l d,w.cell? ⟨b,o,none⟩ = some (.bool s)∧w.cell? ⟨b,o + 1,none⟩ = some (.slice ao k c)∧w.cell? ⟨b,o + 2,none⟩ = some (.bool t)∧w.cell? ⟨b,o + 3,none⟩ = some (.slice bo l d)∧D.NIs w s (.slice ao k c) N∧D.NIs w t (.slice bo l d) Q∧k≤7000∧l≤7000
theorem addr_ne {b b' o o':Nat} (h:b = b'→o ≠ o'):(⟨b,o,none⟩:Addr) ≠ ⟨b',o',none⟩:=fun e => by
  injection e with e1 e2
  exact h e1 e2
section
variable {w w':World} {b o:Nat}
theorem put4_cell {s t:Bool} {v u:Value} {b' o':Nat} (h:b' = b→o' < o ∨ o + 4≤o'):(put4' w b o s v t u).cell? ⟨b',o',none⟩ = w.cell? ⟨b',o',none⟩:=by
  unfold put4'
  rw [sc_other (addr_ne fun e => by have:=h e.symm; omega),sc_other (addr_ne fun e => by have:=h e.symm; omega),sc_other (addr_ne fun e => by have:=h e.symm; omega),sc_other (addr_ne fun e => by have:=h e.symm; omega)]
theorem put4_frozen {s t:Bool} {v u:Value} (a:Addr):(put4' w b o s v t u).frozen? a = w.frozen? a:=by unfold put4'; simp
theorem put4_size {s t:Bool} {v u:Value}:(put4' w b o s v t u).heap.size = w.heap.size:=by unfold put4'; simp [World.setCell]
theorem put4_kx {s t:Bool} {v u:Value}:KX (fun k => k = b) w (put4' w b o s v t u) :=
  ((((KX.refl w).setCell (T:=fun k => k = b) (p:=⟨b,o,none⟩) (.inl rfl) _).setCell (p:=⟨b,o + 1,none⟩) (.inl rfl) _).setCell (p:=⟨b,o + 2,none⟩) (.inl rfl) _).setCell (p:=⟨b,o + 3,none⟩) (.inl rfl) _
theorem FC.lt {N Q:Int} (h:FC w b o N Q):b < w.heap.size:=by
  obtain ⟨s,ao,k,c,t,bo,l,d,h1,_⟩:=h
  exact World.block_lt_of_cell? _ _ h1
theorem FC.put {N Q:Int} {s t:Bool} {v u:Value} (h:FC w b o N Q):NX w (put4' w b o s v t u)∧(put4' w b o s v t u).cell? ⟨b,o,none⟩ = some (.bool s)∧(put4' w b o s v t u).cell? ⟨b,o + 1,none⟩ = some v∧(put4' w b o s v t u).cell? ⟨b,o + 2,none⟩ = some (.bool t)∧(put4' w b o s v t u).cell? ⟨b,o + 3,none⟩ = some u:=by
  obtain ⟨s0,ao,k,c,t0,bo,l,d,h1,h2,h3,h4,_⟩:=h
  have e:∀ i j:Nat,i ≠ j→(⟨b,o + i,none⟩:Addr) ≠ ⟨b,o + j,none⟩:=fun i j hij => addr_ne fun _ => by omega
  have e0:∀ j:Nat,0 ≠ j→(⟨b,o,none⟩:Addr) ≠ ⟨b,o + j,none⟩:=fun j hj => addr_ne fun _ => by omega
  have e0':∀ j:Nat,0 ≠ j→(⟨b,o + j,none⟩:Addr) ≠ ⟨b,o,none⟩:=fun j hj => addr_ne fun _ => by omega
  unfold put4'
  obtain ⟨W1,hW1⟩:∃ W,W = w.setCell ⟨b,o,none⟩ (.bool s):=⟨_,rfl⟩
  rw [← hW1]
  have a0:W1.cell? ⟨b,o,none⟩ = some (.bool s):=by rw [hW1]; exact sc_same h1
  have a1:W1.cell? ⟨b,o + 1,none⟩ = some (.slice ao k c):=by rw [hW1,sc_other (e0 1 (by decide))]; exact h2
  have a2:W1.cell? ⟨b,o + 2,none⟩ = some (.bool t0):=by rw [hW1,sc_other (e0 2 (by decide))]; exact h3
  have a3:W1.cell? ⟨b,o + 3,none⟩ = some (.slice bo l d):=by rw [hW1,sc_other (e0 3 (by decide))]; exact h4
  have n1:NX w W1:=by rw [hW1]; exact NX.set h1 (noint_bool _) _
  obtain ⟨W2,hW2⟩:∃ W,W = W1.setCell ⟨b,o + 1,none⟩ v:=⟨_,rfl⟩
  rw [← hW2]
  have b0:W2.cell? ⟨b,o,none⟩ = some (.bool s):=by rw [hW2,sc_other (e0' 1 (by decide))]; exact a0
  have b1:W2.cell? ⟨b,o + 1,none⟩ = some v:=by rw [hW2]; exact sc_same a1
  have b2:W2.cell? ⟨b,o + 2,none⟩ = some (.bool t0):=by rw [hW2,sc_other (e 1 2 (by decide))]; exact a2
  have b3:W2.cell? ⟨b,o + 3,none⟩ = some (.slice bo l d):=by rw [hW2,sc_other (e 1 3 (by decide))]; exact a3
  have n2:NX W1 W2:=by rw [hW2]; exact NX.set a1 (noint_slice _ _ _) _
  obtain ⟨W3,hW3⟩:∃ W,W = W2.setCell ⟨b,o + 2,none⟩ (.bool t):=⟨_,rfl⟩
  rw [← hW3]
  have c0:W3.cell? ⟨b,o,none⟩ = some (.bool s):=by rw [hW3,sc_other (e0' 2 (by decide))]; exact b0
  have c1:W3.cell? ⟨b,o + 1,none⟩ = some v:=by rw [hW3,sc_other (e 2 1 (by decide))]; exact b1
  have c2:W3.cell? ⟨b,o + 2,none⟩ = some (.bool t):=by rw [hW3]; exact sc_same b2
  have c3:W3.cell? ⟨b,o + 3,none⟩ = some (.slice bo l d):=by rw [hW3,sc_other (e 2 3 (by decide))]; exact b3
  have n3:NX W2 W3:=by rw [hW3]; exact NX.set b2 (noint_bool _) _
  refine ⟨n1.trans (n2.trans (n3.trans (NX.set c3 (noint_slice _ _ _) _))),?_,?_,?_,sc_same c3⟩
  · rw [sc_other (e0' 3 (by decide))]; exact c0
  · rw [sc_other (e 3 1 (by decide))]; exact c1
  · rw [sc_other (e 3 2 (by decide))]; exact c2
theorem FC.kept {N Q:Int} (h:FC w b o N Q) (k:Kept w w'):FC w' b o N Q:=by
  have hlt:=h.lt
  obtain ⟨s,ao,q,c,t,bo,l,d,h1,h2,h3,h4,h5,h6,h7⟩:=h
  exact ⟨s,ao,q,c,t,bo,l,d,(Below.cell k (p:=⟨b,o,none⟩) hlt).trans h1,(Below.cell k (p:=⟨b,o + 1,none⟩) hlt).trans h2,(Below.cell k (p:=⟨b,o + 2,none⟩) hlt).trans h3,(Below.cell k (p:=⟨b,o + 3,none⟩) hlt).trans h4,h5.kept k,h6.kept k,h7⟩
theorem FC.nx {N Q:Int} (h:FC w b o N Q) (n:NX w w') (hc:∀ q,q < 4→w'.cell? ⟨b,o + q,none⟩ = w.cell? ⟨b,o + q,none⟩):FC w' b o N Q:=by
  obtain ⟨s,ao,q,c,t,bo,l,d,h1,h2,h3,h4,h5,h6,h7⟩:=h
  exact ⟨s,ao,q,c,t,bo,l,d,(hc 0 (by decide)).trans h1,(hc 1 (by decide)).trans h2,(hc 2 (by decide)).trans h3,(hc 3 (by decide)).trans h4,n _ _ _ h5,n _ _ _ h6,h7⟩
theorem FC.now {N Q N' Q':Int} {s t:Bool} {ao bo:Option Addr} {k c l d:Nat} (h:FC w b o N Q) (h5:D.NIs w s (.slice ao k c) N') (h6:D.NIs w t (.slice bo l d) Q') (hk:k≤7000) (hl:l≤7000):FC (put4' w b o s (.slice ao k c) t (.slice bo l d)) b o N' Q':=by
  obtain ⟨n,e0,e1,e2,e3⟩:=h.put (s:=s) (v:=.slice ao k c) (t:=t) (u:=.slice bo l d)
  exact ⟨s,ao,k,c,t,bo,l,d,e0,e1,e2,e3,n _ _ _ h5,n _ _ _ h6,hk,hl⟩
end
structure FG (w0 w:World) (g n:Nat) (bk cp:Nat→Nat) (Z:Nat→Nat→Int × Int):Prop where
  kept:Kept w0 w
  hg:w0.heap.size≤g
  lt:g < w.heap.size
  head:∀ i,i < n→w.cell? ⟨g,i,none⟩ = some (.slice (some ⟨bk i,0,none⟩) n (cp i))
  hfz:∀ a,w.frozen? ⟨g,a,none⟩ = false
  base:∀ i,i < n→w0.heap.size≤bk i∧bk i < w.heap.size∧bk i ≠ g
  inj:∀ i j,i < n→j < n→bk i = bk j→i = j
  rfz:∀ i,i < n→∀ a,w.frozen? ⟨bk i,a,none⟩ = false
  cell:∀ i j,i < n→j < n→FC w (bk i) (j * 4) (Z i j).1 (Z i j).2
section
variable {w0 w w':World} {g n:Nat} {bk cp:Nat→Nat} {Z Z':Nat→Nat→Int × Int}
theorem FG.later (h:FG w0 w g n bk cp Z) (k:Kept w w'):FG w0 w' g n bk cp Z :=
  ⟨h.kept.trans k,h.hg,Nat.lt_of_lt_of_le h.lt k.size,fun i hi => (Below.cell k (p:=⟨g,i,none⟩) h.lt).trans (h.head i hi),fun a => (World.frozen?_of_block (a:=⟨g,a,none⟩) (k.block g h.lt)).trans (h.hfz a),
   fun i hi => ⟨(h.base i hi).1,Nat.lt_of_lt_of_le (h.base i hi).2.1 k.size,(h.base i hi).2.2⟩,h.inj,fun i hi a => (World.frozen?_of_block (a:=⟨bk i,a,none⟩) (k.block _ (h.base i hi).2.1)).trans (h.rfz i hi a),fun i j hi hj => (h.cell i j hi hj).kept k⟩
theorem FG.congr (h:FG w0 w g n bk cp Z) (e:∀ i j,i < n→j < n→Z i j = Z' i j):FG w0 w g n bk cp Z' :=
  ⟨h.kept,h.hg,h.lt,h.head,h.hfz,h.base,h.inj,h.rfz,fun i j hi hj => by rw [← e i j hi hj]; exact h.cell i j hi hj⟩
def upd2 (Z:Nat→Nat→Int × Int) (i j:Nat) (x:Int × Int):Nat→Nat→Int × Int:=fun a b => if a = i∧b = j then x else Z a b
theorem FG.put {i j:Nat} {s t:Bool} {ao bo:Option Addr} {k c l d:Nat} {N Q:Int} (h:FG w0 w g n bk cp Z) (hi:i < n) (hj:j < n) (h5:D.NIs w s (.slice ao k c) N) (h6:D.NIs w t (.slice bo l d) Q) (hk:k≤7000) (hl:l≤7000) :
    FG w0 (put4' w (bk i) (j * 4) s (.slice ao k c) t (.slice bo l d)) g n bk cp (upd2 Z i j (N,Q))∧NX w (put4' w (bk i) (j * 4) s (.slice ao k c) t (.slice bo l d)):=by
  have hc:=h.cell i j hi hj
  have hput:=hc.put (s:=s) (v:=.slice ao k c) (t:=t) (u:=.slice bo l d)
  refine ⟨⟨KX.kept h.kept put4_kx fun q hq => by rw [hq]; exact (h.base i hi).1,h.hg,by rw [put4_size]; exact h.lt,fun a ha => ?_,fun a => by rw [put4_frozen]; exact h.hfz a,fun a ha => by rw [put4_size]; exact h.base a ha,h.inj,fun a ha q => by rw [put4_frozen]; exact h.rfz a ha q,fun a b ha hb => ?_⟩,hput.1⟩
  · rw [put4_cell fun e => absurd e.symm (h.base i hi).2.2]
    exact h.head a ha
  · unfold upd2
    by_cases e:a = i∧b = j
    · rw [if_pos e,e.1,e.2]
      exact hc.now h5 h6 hk hl
    · rw [if_neg e]
      refine (h.cell a b ha hb).nx hput.1 fun q hq => put4_cell fun eb => ?_
      have ea:=h.inj a i ha hi eb
      have hne:b ≠ j:=fun eb => e ⟨ea,eb⟩
      omega
theorem FG.swap {p q:Nat} (h:FG w0 w g n bk cp Z) (hp:p < n) (hq:q < n) (hpq:p ≠ q):FG w0 ((w.setCell ⟨g,p,none⟩ (.slice (some ⟨bk q,0,none⟩) n (cp q))).setCell ⟨g,q,none⟩ (.slice (some ⟨bk p,0,none⟩) n (cp p))) g n (fun i => bk (tr2 p q i)) (fun i => cp (tr2 p q i)) (fun i => Z (tr2 p q i))∧NX w ((w.setCell ⟨g,p,none⟩ (.slice (some ⟨bk q,0,none⟩) n (cp q))).setCell ⟨g,q,none⟩ (.slice (some ⟨bk p,0,none⟩) n (cp p))):=by
  have c1:(w.setCell ⟨g,p,none⟩ (.slice (some ⟨bk q,0,none⟩) n (cp q))).cell? ⟨g,q,none⟩ = some (.slice (some ⟨bk q,0,none⟩) n (cp q)):=by
    rw [sc_other (addr_ne fun _ => hpq)]
    exact h.head q hq
  have n1:NX w (w.setCell ⟨g,p,none⟩ (.slice (some ⟨bk q,0,none⟩) n (cp q))):=NX.set (h.head p hp) (noint_slice _ _ _) _
  have n2:NX (w.setCell ⟨g,p,none⟩ (.slice (some ⟨bk q,0,none⟩) n (cp q))) ((w.setCell ⟨g,p,none⟩ (.slice (some ⟨bk q,0,none⟩) n (cp q))).setCell ⟨g,q,none⟩ (.slice (some ⟨bk p,0,none⟩) n (cp p))):=NX.set c1 (noint_slice _ _ _) _
  have far:∀ b o,b ≠ g→((w.setCell ⟨g,p,none⟩ (.slice (some ⟨bk q,0,none⟩) n (cp q))).setCell ⟨g,q,none⟩ (.slice (some ⟨bk p,0,none⟩) n (cp p))).cell? ⟨b,o,none⟩ = w.cell? ⟨b,o,none⟩:=fun b o hb => by
    rw [sc_other (addr_ne fun e => absurd e.symm hb),sc_other (addr_ne fun e => absurd e.symm hb)]
  have kx:KX (fun k => k = g) w ((w.setCell ⟨g,p,none⟩ (.slice (some ⟨bk q,0,none⟩) n (cp q))).setCell ⟨g,q,none⟩ (.slice (some ⟨bk p,0,none⟩) n (cp p))):=((KX.refl w).setCell (T:=fun k => k = g) (p:=⟨g,p,none⟩) (.inl rfl) _).setCell (p:=⟨g,q,none⟩) (.inl rfl) _
  have hs:((w.setCell ⟨g,p,none⟩ (.slice (some ⟨bk q,0,none⟩) n (cp q))).setCell ⟨g,q,none⟩ (.slice (some ⟨bk p,0,none⟩) n (cp p))).heap.size = w.heap.size:=by simp [World.setCell]
  refine ⟨⟨KX.kept h.kept kx fun k hk => by rw [hk]; exact h.hg,h.hg,by rw [hs]; exact h.lt,fun i hi => ?_,fun a => by simp; exact h.hfz a,fun i hi => by rw [hs]; exact h.base _ (tr2_lt hp hq hi),fun i j hi hj e => ?_,fun i hi a => by simp; exact h.rfz _ (tr2_lt hp hq hi) a,fun i j hi hj => ?_⟩,n1.trans n2⟩
  · by_cases e2:i = q
    · subst e2
      rw [sc_same c1]
      have:tr2 p i i = p:=by unfold tr2; rw [if_neg (fun e => hpq e.symm),if_pos rfl]
      rw [this]
    · rw [sc_other (addr_ne fun _ e => e2 e.symm)]
      by_cases e1:i = p
      · subst e1
        rw [sc_same (h.head i hi)]
        have:tr2 i q i = q:=by unfold tr2; rw [if_pos rfl]
        rw [this]
      · rw [sc_other (addr_ne fun _ e => e1 e.symm)]
        have:tr2 p q i = i:=by unfold tr2; rw [if_neg e1,if_neg e2]
        rw [this]
        exact h.head i hi
  · have:=h.inj _ _ (tr2_lt hp hq hi) (tr2_lt hp hq hj) e
    have:=congrArg (tr2 p q) this
    rw [tr2_tr2,tr2_tr2] at this
    exact this
  · exact (h.cell _ j (tr2_lt hp hq hi) hj).nx (n1.trans n2) fun k _ => far _ _ (h.base _ (tr2_lt hp hq hi)).2.2
end
end Bp
end Go.Proofs.YtdcfammglpebaaaGreat

namespace Go.Proofs.YtdcfammglpebaaaGreat
open Go.RowKit
open V (RowL)
open Sp (hid own_kept own_keptK own_shape info_parts)
namespace Bp
def FO (A:Nat→Prop) (P:Nat) (zs:Nat→Int) (w:World) (v:Value) (n:Nat):Prop :=
 ∃ xs,w.ownsRow P 111 4 v n xs∧(∀ b,v.ownBlock = some b→¬ A b)∧∀ j,j < n→∃ s ao k c t bo l d,xs[j * 4]? = some (.bool s)∧xs[j * 4 + 1]? = some (.slice ao k c)∧xs[j * 4 + 2]? = some (.bool t)∧xs[j * 4 + 3]? = some (.slice bo l d)∧DX (fun q => A q ∨ v.ownBlock = some q) 7000 w s (.slice ao k c) (zs j)∧DX (fun q => A q ∨ v.ownBlock = some q) 7000 w t (.slice bo l d) 1
def FdX (A:Nat→Prop) (zs:Nat→Int) (w:World) (b n:Nat):Prop :=
 b < w.heap.size∧¬ A b∧(∀ a,w.frozen? ⟨b,a,none⟩ = false)∧∀ j,j < n→∃ s ao k c t bo l d,w.cell? ⟨b,j * 4,none⟩ = some (.bool s)∧w.cell? ⟨b,j * 4 + 1,none⟩ = some (.slice ao k c)∧w.cell? ⟨b,j * 4 + 2,none⟩ = some (.bool t)∧w.cell? ⟨b,j * 4 + 3,none⟩ = some (.slice bo l d)∧DX A 7000 w s (.slice ao k c) (zs j)∧DX A 7000 w t (.slice bo l d) 1
section
variable {A A':Nat→Prop} {P n b:Nat} {zs zs':Nat→Int} {w w' W W4:World} {v:Value}
theorem FO.nil (A:Nat→Prop) (P:Nat) (zs:Nat→Int) (w:World):FO A P zs w (.slice none 0 0) 0:=⟨[],World.ownsRow_nil _ _ _ _,(fun b h => by cases h),fun j hj => absurd hj (Nat.not_lt_zero _)⟩
theorem FO.kept (h:FO A P zs w v n) (k:Kept w w'):FO A P zs w' v n:=by
 obtain ⟨xs,ho,hA,hx⟩:=h
 refine ⟨xs,own_keptK ho k,hA,fun j hj => ?_⟩
 obtain ⟨s,ao,m,c,t,bo,l,d,x1,x2,x3,x4,x5,x6⟩:=hx j hj
 exact ⟨s,ao,m,c,t,bo,l,d,x1,x2,x3,x4,x5.kept k,x6.kept k⟩
theorem FO.congr (h:FO A P zs w v n) (e:∀ j,j < n→zs j = zs' j):FO A P zs' w v n:=by
 obtain ⟨xs,ho,hA,hx⟩:=h
 refine ⟨xs,ho,hA,fun j hj => ?_⟩
 rw [← e j hj]
 exact hx j hj
theorem FO.row (h:FO A P zs w v n) (h0:0 < n):∃ b cap,v = .slice (some ⟨b,0,none⟩) n cap∧P≤b∧FdX A zs w b n:=by
 obtain ⟨xs,ho,hA,hx⟩:=h
 rcases ho.2 with ⟨_,e⟩ | ⟨g,cap,cur,rfl,hP,_⟩
 ·
  omega
 ·
  refine ⟨g,cap,rfl,hP,(World.ownsRow.lt ho g rfl).2,hA g rfl,fun a => ho.frozenAt a,fun j hj => ?_⟩
  obtain ⟨s,ao,m,c,t,bo,l,d,x1,x2,x3,x4,x5,x6⟩:=hx j hj
  have hl:=ho.1
  exact ⟨s,ao,m,c,t,bo,l,d,(ho.cellAt _ (by omega)).trans x1,(ho.cellAt _ (by omega)).trans x2,(ho.cellAt _ (by omega)).trans x3,(ho.cellAt _ (by omega)).trans x4,x5.mono (fun q h => .inl h) (Nat.le_refl _),x6.mono (fun q h => .inl h) (Nat.le_refl _)⟩
theorem FO.snoc {g4 cap4:Nat} {s t:Bool} {ao bo:Option Addr} {k c l d:Nat} (hA:∀ q,A q→q < W.heap.size) (xs:List Value) (hl:xs.length = n * 4) (hv:∀ b,v.ownBlock = some b→¬ A b)
  (hx:∀ j,j < n→∃ s ao k c t bo l d,xs[j * 4]? = some (.bool s)∧xs[j * 4 + 1]? = some (.slice ao k c)∧xs[j * 4 + 2]? = some (.bool t)∧xs[j * 4 + 3]? = some (.slice bo l d)∧DX (fun q => A q ∨ v.ownBlock = some q) 7000 W s (.slice ao k c) (zs j)∧DX (fun q => A q ∨ v.ownBlock = some q) 7000 W t (.slice bo l d) 1)
  (hz:DX (fun q => A q ∨ v.ownBlock = some q) 7000 W s (.slice ao k c) (zs n)) (hz2:DX (fun q => A q ∨ v.ownBlock = some q) 7000 W t (.slice bo l d) 1) (ho:W4.ownsRow P 111 4 (.slice (some ⟨g4,0,none⟩) (n + 1) cap4) (n + 1) (xs ++ [.bool s,.slice ao k c,.bool t,.slice bo l d])) (hg:W.grownBy W4 v.ownBlock) (hG:v.ownBlock = some g4 ∨ g4 = W.heap.size) :
  FO A P zs W4 (.slice (some ⟨g4,0,none⟩) (n + 1) cap4) (n + 1):=by
 have up:∀ {s:Bool} {u:Value} {z:Int},DX (fun q => A q ∨ v.ownBlock = some q) 7000 W s u z→DX (fun q => A q ∨ Value.ownBlock (.slice (some ⟨g4,0,none⟩) (n + 1) cap4) = some q) 7000 W4 s u z:=fun h => by
  refine DX.kx (w:=W) ?_ ((KX.grown hg).mono fun q hq => ?_) |>.mono (A:=fun q => A q ∨ v.ownBlock = some q ∨ q = g4) (fun q hq => ?_) (Nat.le_refl _)
  ·
   refine h.add.mono (fun q hq => ?_) (Nat.le_refl _)
   rcases hq with hq | hq | rfl
   ·
    exact .inl (.inl hq)
   ·
    exact .inl (.inr hq)
   ·
    rcases hG with e | e
    ·
     exact .inl (.inr e)
    ·
     exact .inr (by omega)
  ·
   exact .inr (.inl hq.symm)
  ·
   rcases hq with hq | hq
   ·
    exact .inl hq
   ·
    have:g4 = q:=by simpa [Value.ownBlock] using hq
    exact .inr (.inr this.symm)
 refine ⟨_,ho,fun b hb hq => ?_,fun j hj => ?_⟩
 ·
  have hb:g4 = b:=by simpa [Value.ownBlock] using hb
  subst hb
  rcases hG with e | e
  ·
   exact hv _ e hq
  ·
   have:=hA _ hq; omega
 ·
  by_cases e:j < n
  ·
   obtain ⟨s',ao',k',c',t',bo',l',d',x1,x2,x3,x4,x5,x6⟩:=hx j e
   exact ⟨s',ao',k',c',t',bo',l',d',by rw [List.getElem?_append_left (by omega)]; exact x1,by rw [List.getElem?_append_left (by omega)]; exact x2,by rw [List.getElem?_append_left (by omega)]; exact x3,by rw [List.getElem?_append_left (by omega)]; exact x4,up x5,up x6⟩
  ·
   obtain rfl:j = n:=by omega
   refine ⟨s,ao,k,c,t,bo,l,d,?_,?_,?_,?_,up hz,up hz2⟩
   ·
    rw [List.getElem?_append_right (by omega),hl,Nat.sub_self]; rfl
   ·
    rw [List.getElem?_append_right (by omega),hl,show j * 4 + 1 - j * 4 = 1 by omega]; rfl
   ·
    rw [List.getElem?_append_right (by omega),hl,show j * 4 + 2 - j * 4 = 2 by omega]; rfl
   ·
    rw [List.getElem?_append_right (by omega),hl,show j * 4 + 3 - j * 4 = 3 by omega]; rfl
theorem FdX.kx (h:FdX A zs w b n) (k:KX A w w'):FdX A zs w' b n:=by
 obtain ⟨hb,hA,hf,hc⟩:=h
 have hh:=k.block b hb hA
 refine ⟨Nat.lt_of_lt_of_le hb k.size,hA,fun a => (World.frozen?_of_block (a:=⟨b,a,none⟩) hh).trans (hf a),fun j hj => ?_⟩
 obtain ⟨s,ao,m,c,t,bo,l,d,x1,x2,x3,x4,x5,x6⟩:=hc j hj
 exact ⟨s,ao,m,c,t,bo,l,d,(World.cell?_of_block (a:=⟨b,j * 4,none⟩) hh).trans x1,(World.cell?_of_block (a:=⟨b,j * 4 + 1,none⟩) hh).trans x2,(World.cell?_of_block (a:=⟨b,j * 4 + 2,none⟩) hh).trans x3,(World.cell?_of_block (a:=⟨b,j * 4 + 3,none⟩) hh).trans x4,x5.kx k,x6.kx k⟩
theorem FdX.kept (h:FdX A zs w b n) (k:Kept w w'):FdX A zs w' b n:=h.kx (KX.of k)
theorem FdX.mono (h:FdX A zs w b n) (hA:∀ q,A' q→A q):FdX A' zs w b n:=by
 obtain ⟨hb,hn,hf,hc⟩:=h
 refine ⟨hb,fun h => hn (hA b h),hf,fun j hj => ?_⟩
 obtain ⟨s,ao,m,c,t,bo,l,d,x1,x2,x3,x4,x5,x6⟩:=hc j hj
 exact ⟨s,ao,m,c,t,bo,l,d,x1,x2,x3,x4,x5.mono hA (Nat.le_refl _),x6.mono hA (Nat.le_refl _)⟩
theorem FdX.add (h:FdX A zs w b n):FdX (fun q => A q ∨ w.heap.size≤q) zs w b n:=by
 obtain ⟨hb,hn,hf,hc⟩:=h
 refine ⟨hb,fun h => h.elim hn (fun h => by omega),hf,fun j hj => ?_⟩
 obtain ⟨s,ao,m,c,t,bo,l,d,x1,x2,x3,x4,x5,x6⟩:=hc j hj
 exact ⟨s,ao,m,c,t,bo,l,d,x1,x2,x3,x4,x5.add,x6.add⟩
end
def RO (P n:Nat) (F:Nat→Nat→Int) (w:World) (v:Value) (m:Nat):Prop :=
 ∃ (hs:List Value) (bk cp:Nat→Nat),w.ownsRow P 109 1 v m hs∧(∀ i,i < m→hs[i]? = some (.slice (some ⟨bk i,0,none⟩) n (cp i))∧P≤bk i∧FdX (fun q => v.ownBlock = some q) (F i) w (bk i) n)∧∀ i j,i < m→j < m→bk i = bk j→i = j
section
variable {P n m:Nat} {F F':Nat→Nat→Int} {w w' W W4:World} {v:Value}
theorem RO.nil (P n:Nat) (F:Nat→Nat→Int) (w:World):RO P n F w (.slice none 0 0) 0:=⟨[],fun _ => 0,fun _ => 0,World.ownsRow_nil _ _ _ _,(fun _ hj => absurd hj (Nat.not_lt_zero _)),fun _ _ h => absurd h (Nat.not_lt_zero _)⟩
theorem RO.kept (h:RO P n F w v m) (k:Kept w w'):RO P n F w' v m:=by
 obtain ⟨hs,bk,cp,ho,hx,hi⟩:=h
 exact ⟨hs,bk,cp,own_keptK ho k,fun i hm => ⟨(hx i hm).1,(hx i hm).2.1,(hx i hm).2.2.kept k⟩,hi⟩
theorem RO.snoc {S g4 cap4 b c:Nat} (hs:List Value) (bk cp:Nat→Nat) (hl:hs.length = m)
  (hx:∀ i,i < m→hs[i]? = some (.slice (some ⟨bk i,0,none⟩) n (cp i))∧P≤bk i∧FdX (fun q => v.ownBlock = some q) (F i) W (bk i) n) (hi:∀ i j,i < m→j < m→bk i = bk j→i = j) (hS:∀ i,i < m→bk i < S) (hb:S≤b) (hP:P≤S)
  (hz:FdX (fun q => v.ownBlock = some q) (F m) W b n) (ho:W4.ownsRow P 109 1 (.slice (some ⟨g4,0,none⟩) (m + 1) cap4) (m + 1) (hs ++ [.slice (some ⟨b,0,none⟩) n c])) (hg:W.grownBy W4 v.ownBlock) (hG:v.ownBlock = some g4 ∨ g4 = W.heap.size) :
  RO P n F W4 (.slice (some ⟨g4,0,none⟩) (m + 1) cap4) (m + 1):=by
 have up:∀ {b:Nat} {zs:Nat→Int},FdX (fun q => v.ownBlock = some q) zs W b n→FdX (fun q => Value.ownBlock (.slice (some ⟨g4,0,none⟩) (m + 1) cap4) = some q) zs W4 b n:=fun h => by
  refine FdX.mono (A:=fun q => v.ownBlock = some q ∨ q = g4) (FdX.kx (w:=W) ?_ ((KX.grown hg).mono fun q hq => .inl hq.symm)) (fun q hq => ?_)
  ·
   refine h.add.mono (fun q hq => ?_)
   rcases hq with hq | rfl
   ·
    exact .inl hq
   ·
    rcases hG with e | e
    ·
     exact .inl e
    ·
     exact .inr (by omega)
  ·
   have:g4 = q:=by simpa [Value.ownBlock] using hq
   exact .inr this.symm
 refine ⟨_,fun i => if i = m then b else bk i,fun i => if i = m then c else cp i,ho,fun i him => ?_,fun i j h1 h2 e => ?_⟩
 ·
  by_cases e:i = m
  ·
   subst e
   simp only [if_pos]
   refine ⟨?_,Nat.le_trans hP hb,up hz⟩
   rw [List.getElem?_append_right (by omega),hl,Nat.sub_self]; rfl
  ·
   simp only [if_neg e]
   have hlt:i < m:=by omega
   exact ⟨by rw [List.getElem?_append_left (by omega)]; exact (hx i hlt).1,(hx i hlt).2.1,up (hx i hlt).2.2⟩
 ·
  by_cases e1:i = m <;> by_cases e2:j = m
  ·
   omega
  ·
   simp only [if_pos e1,if_neg e2] at e
   have:=hS j (by omega); omega
  ·
   simp only [if_neg e1,if_pos e2] at e
   have:=hS i (by omega); omega
  ·
   simp only [if_neg e1,if_neg e2] at e
   exact hi i j (by omega) (by omega) e
theorem RO.square {w0:World} (h:RO w0.heap.size n F w v n) (k:Kept w0 w) (h0:0 < n):∃ g cap bk cp,v = .slice (some ⟨g,0,none⟩) n cap∧FG w0 w g n bk cp (fun i j => (F i j,1)):=by
 obtain ⟨hs,bk,cp,ho,hx,hi⟩:=h
 rcases ho.2 with ⟨_,e⟩ | ⟨g,cap,cur,rfl,hP,_⟩
 ·
  omega
 ·
  have hl:=ho.1
  refine ⟨g,cap,bk,cp,rfl,k,hP,(World.ownsRow.lt ho g rfl).2,fun i hi => (ho.cellAt i (by omega)).trans (hx i hi).1,fun a => ho.frozenAt a,fun i hi => ⟨(hx i hi).2.1,(hx i hi).2.2.1,fun e => (hx i hi).2.2.2.1 (by rw [e]; rfl)⟩,hi,fun i hi a => (hx i hi).2.2.2.2.1 a,fun i j hi hj => ?_⟩
  obtain ⟨s,ao,m,c,t,bo,l,d,x1,x2,x3,x4,x5,x6⟩:=(hx i hi).2.2.2.2.2 j hj
  obtain ⟨a1,_,_,_,e1,b1,_⟩:=x5
  obtain ⟨a2,_,_,_,e2,b2,_⟩:=x6
  cases e1
  cases e2
  exact ⟨s,ao,m,c,t,bo,l,d,x1,x2,x3,x4,a1,a2,b1,b2⟩
end
end Bp
end Go.Proofs.YtdcfammglpebaaaGreat

namespace Go.Proofs.YtdcfammglpebaaaGreat
open Go.RowKit
open V (RowL RowL.kept RowL.block)
open Ba (stg lastP pivs Fits cast tr2)
open F (Low)
namespace Bp
def FB (w:World) (p:Nat) (N Q:Int):Prop:=FC w p 0 N Q∧∀ a,w.frozen? ⟨p,a,none⟩ = false
section
variable {w w':World} {p:Nat} {N Q:Int}
theorem FB.kept (h:FB w p N Q) (k:Kept w w'):FB w' p N Q:=⟨h.1.kept k,fun a => (World.frozen?_of_block (a:=⟨p,a,none⟩) (k.block p h.1.lt)).trans (h.2 a)⟩
theorem FB.put {N' Q':Int} {s t:Bool} {ao bo:Option Addr} {k c l d:Nat} (h:FB w p N Q) (h5:D.NIs w s (.slice ao k c) N') (h6:D.NIs w t (.slice bo l d) Q') (hk:k≤7000) (hl:l≤7000):FB (put4' w p 0 s (.slice ao k c) t (.slice bo l d)) p N' Q':=⟨h.1.now h5 h6 hk hl,fun a => by rw [put4_frozen]; exact h.2 a⟩
theorem FB.beside {b o:Nat} {s t:Bool} {v u:Value} (h:FB w p N Q) (hne:p ≠ b) (n:NX w (put4' w b o s v t u)):FB (put4' w b o s v t u) p N Q:=⟨h.1.nx n fun q _ => put4_cell fun e => absurd e hne,fun a => by rw [put4_frozen]; exact h.2 a⟩
end
theorem FG.box {w0 w:World} {g n p:Nat} {bk cp:Nat→Nat} {Z:Nat→Nat→Int × Int} {N Q:Int} {s t:Bool} {v u:Value} (h:FG w0 w g n bk cp Z) (hb:FB w p N Q) (hg:g ≠ p) (hbk:∀ i,i < n→bk i ≠ p) (hp:w0.heap.size≤p):FG w0 (put4' w p 0 s v t u) g n bk cp Z:=by
  have hput:=hb.1.put (s:=s) (v:=v) (t:=t) (u:=u)
  exact ⟨KX.kept h.kept put4_kx fun q hq => by rw [hq]; exact hp,h.hg,by rw [put4_size]; exact h.lt,fun i hi => by rw [put4_cell fun e => absurd e hg]; exact h.head i hi,fun a => by rw [put4_frozen]; exact h.hfz a,fun i hi => by rw [put4_size]; exact h.base i hi,h.inj,fun i hi a => by rw [put4_frozen]; exact h.rfz i hi a,fun i j hi hj => (h.cell i j hi hj).nx hput.1 fun q _ => put4_cell fun e => absurd e (hbk i hi)⟩
structure DS (wB w:World) (n k:Nat) (M:Nat→Nat→Int) (g pd:Nat) (f:Nat→Nat) (s dv:Int) (bk cp:Nat→Nat) (Z:Nat→Nat→Int × Int):Prop where
  inv:DtI n M k f s
  grid:FG wB w g n bk cp Z
  cell:∀ i j,k≤i→i < n→k≤j→j < n→Low (stg M (psOf f k) (f i) j) (lastP M (psOf f k)) (Z i j).1 (Z i j).2
  d:FB w pd dv 1
  sep:g < pd∧∀ i,i < n→bk i < pd
  base:wB.heap.size≤pd
def dnF (k i j r c:Nat):Prop:=(k < r∧r < i) ∨ (r = i∧c < j)
structure DE (wB w:World) (n k i j:Nat) (M:Nat→Nat→Int) (g pd:Nat) (f:Nat→Nat) (s dv:Int) (bk cp:Nat→Nat) (Z:Nat→Nat→Int × Int):Prop where
  inv:DtI n M k f s
  hk:k < n
  hi:k < i
  piv:stg M (psOf f k) (f k) k ≠ 0
  grid:FG wB w g n bk cp Z
  cell:∀ r c,k≤r→r < n→k≤c→c < n→(dnF k i j r c→k < c→Low (stg M (psOf f (k + 1)) (f r) c) (stg M (psOf f k) (f k) k) (Z r c).1 (Z r c).2)∧(¬ dnF k i j r c→Low (stg M (psOf f k) (f r) c) (lastP M (psOf f k)) (Z r c).1 (Z r c).2)
  d:FB w pd dv 1
  sep:g < pd∧∀ i,i < n→bk i < pd
  base:wB.heap.size≤pd
section
variable {wB w w':World} {n k i j:Nat} {M:Nat→Nat→Int} {g pd:Nat} {f:Nat→Nat} {s dv:Int} {bk cp:Nat→Nat} {Z:Nat→Nat→Int × Int}
theorem DS.later (h:DS wB w n k M g pd f s dv bk cp Z) (K:Kept w w'):DS wB w' n k M g pd f s dv bk cp Z:=⟨h.inv,h.grid.later K,h.cell,h.d.kept K,h.sep,h.base⟩
theorem DE.later (h:DE wB w n k i j M g pd f s dv bk cp Z) (K:Kept w w'):DE wB w' n k i j M g pd f s dv bk cp Z:=⟨h.inv,h.hk,h.hi,h.piv,h.grid.later K,h.cell,h.d.kept K,h.sep,h.base⟩
theorem DS.swap {q:Nat} (h:DS wB w n k M g pd f s dv bk cp Z) (hq:k≤q) (hqn:q < n) (hne:q ≠ k) :
    DS wB ((w.setCell ⟨g,q,none⟩ (.slice (some ⟨bk k,0,none⟩) n (cp k))).setCell ⟨g,k,none⟩ (.slice (some ⟨bk q,0,none⟩) n (cp q))) n k M g pd (fun a => f (tr2 q k a)) (-s) dv (fun i => bk (tr2 q k i)) (fun i => cp (tr2 q k i)) (fun i => Z (tr2 q k i)):=by
  have hk:k < n:=by omega
  obtain ⟨hg,hn⟩:=h.grid.swap hqn hk hne
  have e:psOf (fun a => f (tr2 q k a)) k = psOf f k:=psOf_congr fun a ha => by
    have:tr2 q k a = a:=by unfold tr2; rw [if_neg (by omega),if_neg (by omega)]
    rw [this]
  have hge : ∀ i, k ≤ i → k ≤ tr2 q k i := fun i hi => by unfold tr2; repeat' split
                                                          all_goals omega
  have hpd:=h.sep.1
  refine ⟨h.inv.swap hq hqn hne,hg,fun i j hi hin hj hjn => ?_,⟨h.d.1.nx hn fun o _ => ?_,fun a => by simp; exact h.d.2 a⟩,⟨hpd,fun i hi => h.sep.2 _ (tr2_lt hqn hk hi)⟩,h.base⟩
  · rw [e]
    exact h.cell _ j (hge i hi) (tr2_lt hqn hk hin) hj hjn
  · rw [sc_other (addr_ne fun e => by omega),sc_other (addr_ne fun e => by omega)]
theorem DS.put {N:Int} {s9 t9:Bool} {ao bo:Option Addr} {k9 c9 l9 d9:Nat} (h:DS wB w n k M g pd f s dv bk cp Z) (h5:D.NIs w s9 (.slice ao k9 c9) N) (h6:D.NIs w t9 (.slice bo l9 d9) 1) (hk:k9≤7000) (hl:l9≤7000) :
    DS wB (put4' w pd 0 s9 (.slice ao k9 c9) t9 (.slice bo l9 d9)) n k M g pd f s N bk cp Z :=
  ⟨h.inv,h.grid.box h.d (by have:=h.sep.1; omega) (fun i hi => by have:=h.sep.2 i hi; omega) h.base,h.cell,h.d.put h5 h6 hk hl,h.sep,h.base⟩
theorem DS.begin (h:DS wB w n k M g pd f s dv bk cp Z) (hk:k < n) (hp:stg M (psOf f k) (f k) k ≠ 0):DE wB w n k (k + 1) k M g pd f s dv bk cp Z:=by
  refine ⟨h.inv,hk,Nat.lt_succ_self _,hp,h.grid,fun r c hr hrn hc hcn => ⟨fun hd => ?_,fun _ => h.cell r c hr hrn hc hcn⟩,h.d,h.sep,h.base⟩
  unfold dnF at hd
  omega
theorem DE.fin (h:DE wB w n k n j M g pd f s dv bk cp Z):DS wB w n (k + 1) M g pd f s dv bk cp Z:=by
  have hlast:lastP M (psOf f (k + 1)) = stg M (psOf f k) (f k) k:=by rw [psOf_succ]; exact (Ba.stg_snoc M (psOf f k) (f k) k).2
  refine ⟨h.inv.next h.hk h.piv,h.grid,fun r c hr hrn hc hcn => ?_,h.d,h.sep,h.base⟩
  rw [hlast]
  exact (h.cell r c (by omega) hrn (by omega) hcn).1 (.inl ⟨by omega,hrn⟩) (by omega)
theorem DE.old (h:DE wB w n k i j M g pd f s dv bk cp Z) {c:Nat} (hin:i < n) (hj:j≤c) (hc:k≤c) (hcn:c < n):Low (stg M (psOf f k) (f i) c) (lastP M (psOf f k)) (Z i c).1 (Z i c).2 :=
  (h.cell i c (by have:=h.hi; omega) hin hc hcn).2 fun hd => by unfold dnF at hd; omega
theorem DE.top (h:DE wB w n k i j M g pd f s dv bk cp Z) {c:Nat} (hc:k≤c) (hcn:c < n):Low (stg M (psOf f k) (f k) c) (lastP M (psOf f k)) (Z k c).1 (Z k c).2 :=
  (h.cell k c (Nat.le_refl _) h.hk hc hcn).2 fun hd => by have:=h.hi; unfold dnF at hd; omega
theorem DE.skip (h:DE wB w n k i k M g pd f s dv bk cp Z) (hin:i < n) (h0:stg M (psOf f k) (f i) k = 0):DE wB w n k (i + 1) k M g pd f s dv bk cp Z:=by
  have hi:=h.hi
  refine ⟨h.inv,h.hk,by omega,h.piv,h.grid,fun r c hr hrn hc hcn => ?_,h.d,h.sep,h.base⟩
  have hx:=h.cell r c hr hrn hc hcn
  by_cases e:r = i
  · subst e
    refine ⟨fun _ hkc => ?_,fun hd => absurd (.inl ⟨hi,Nat.lt_succ_self _⟩) hd⟩
    rw [psOf_succ]
    exact elim_none h.inv.piv h.piv h0 (hx.2 fun hd => by unfold dnF at hd; omega)
  · exact ⟨fun hd hkc => hx.1 (by unfold dnF at hd ⊢; omega) hkc,fun hd => hx.2 fun hd2 => hd (by unfold dnF at hd2 ⊢; omega)⟩
theorem DE.row (h:DE wB w n k i n M g pd f s dv bk cp Z):DE wB w n k (i + 1) k M g pd f s dv bk cp Z:=by
  have hi:=h.hi
  exact ⟨h.inv,h.hk,by omega,h.piv,h.grid,fun r c hr hrn hc hcn => ⟨fun hd hkc => (h.cell r c hr hrn hc hcn).1 (by unfold dnF at hd ⊢; omega) hkc,fun hd => (h.cell r c hr hrn hc hcn).2 fun hd2 => hd (by unfold dnF at hd2 ⊢; omega)⟩,h.d,h.sep,h.base⟩
theorem DE.put {N Q:Int} {s9 t9:Bool} {ao bo:Option Addr} {k9 c9 l9 d9:Nat} (h:DE wB w n k i j M g pd f s dv bk cp Z) (hin:i < n) (hjn:j < n) (h5:D.NIs w s9 (.slice ao k9 c9) N) (h6:D.NIs w t9 (.slice bo l9 d9) Q) (hk:k9≤7000) (hl:l9≤7000)
    (hz:Low (stg M (psOf f (k + 1)) (f i) j) (stg M (psOf f k) (f k) k) N Q):DE wB (put4' w (bk i) (j * 4) s9 (.slice ao k9 c9) t9 (.slice bo l9 d9)) n k i (j + 1) M g pd f s dv bk cp (upd2 Z i j (N,Q)):=by
  have hi:=h.hi
  obtain ⟨hg,hn⟩:=h.grid.put hin hjn h5 h6 hk hl
  refine ⟨h.inv,h.hk,h.hi,h.piv,hg,fun r c hr hrn hc hcn => ?_,h.d.beside (by have:=h.sep.2 i hin; omega) hn,h.sep,h.base⟩
  have hx:=h.cell r c hr hrn hc hcn
  unfold upd2
  by_cases e:r = i∧c = j
  · rw [if_pos e,e.1,e.2]
    exact ⟨fun _ _ => hz,fun hd => absurd (.inr ⟨rfl,Nat.lt_succ_self _⟩) hd⟩
  · rw [if_neg e]
    refine ⟨fun hd hkc => hx.1 ?_ hkc,fun hd => hx.2 fun hd2 => hd ?_⟩
    · unfold dnF at hd ⊢
      rcases hd with hd | ⟨h1,h2⟩
      · exact .inl hd
      · refine .inr ⟨h1,?_⟩
        have:c ≠ j:=fun e2 => e ⟨h1,e2⟩
        omega
    · unfold dnF at hd2 ⊢
      rcases hd2 with hd | ⟨h1,h2⟩
      · exact .inl hd
      · exact .inr ⟨h1,by omega⟩
theorem DE.few (h:DE wB w n k i j M g pd f s dv bk cp Z) (hf:Few n M) (hn:n≤48) {N Q:Int} {c:Nat} (hin:i < n) (hc:k≤c) (hcn:c < n) (hz:Low (stg M (psOf f (k + 1)) (f i) c) (stg M (psOf f k) (f k) k) N Q):N.natAbs < 65536 ^ 7000∧Q.natAbs < 65536 ^ 7000:=by
  have hi:=h.hi
  have h1:=h.inv.small hf hn (Nat.le_refl k) h.hk (Nat.le_refl k) h.hk
  have h2:(stg M (psOf f (k + 1)) (f i) c).natAbs < 65536 ^ 7000:=by
    by_cases e:k < c
    · exact (h.inv.next h.hk h.piv).small hf hn hi hin e hcn
    · obtain rfl:c = k:=by omega
      have hx:=Ba.stg_exact h.inv.piv h.piv (f i) c
      rw [psOf_succ]
      have hl:=Ba.last_ne h.inv.piv
      have h0:stg M (psOf f c ++ [(f c,c)]) (f i) c = 0:=by
        rcases Int.mul_eq_zero.1 (show lastP M (psOf f c) * stg M (psOf f c ++ [(f c,c)]) (f i) c = 0 by rw [← hx]; rw [Int.mul_comm]; exact Int.sub_self _) with h | h
        · exact absurd h hl
        · exact h
      rw [h0]
      exact Nat.lt_of_lt_of_le Nat.zero_lt_one (pow_one 7000)
  exact low_nat hz h.piv h2 h1
end
end Bp
end Go.Proofs.YtdcfammglpebaaaGreat
